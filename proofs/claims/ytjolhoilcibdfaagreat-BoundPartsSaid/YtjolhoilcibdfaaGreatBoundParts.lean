/- BoundParts returns true at any table and numbers: package bound's Serve, Pass, Free, Entry, Over and Wait return what the document's own return. No condition. -/
import Derived.Test.YtjolhoilcibdfaaGreatRows
import Derived.Test.YtjolhoilcibdfaaGreatPart10
import Derived.Test.YtjolhoilcibdfaaGreatPart12
import Derived.Test.YtjolhoilcibdfaaGreatPart06
import Derived.Test.YtjolhoilcibdfaaGreatPart05
import Derived.Deep.Cut
import Derived.WalkKit
import Derived.WalkLawsBesides
import Derived.ProofKit
import Derived.OpenShut
import Derived.ShutString
import Derived.ChangeOld
import Derived.Below
set_option linter.unusedVariables false
set_option linter.unusedSimpArgs false
set_option linter.unusedSectionVars false
namespace Go.Proofs.YtjolhoilcibdfaaGreat.boundParts
open Go.ChangeShapes Go.WideShapes Go.ChangeAt Go.RowKit
open Tab PlaceM PlanM OnS ChkM
open May (infoT)
set_option linter.unusedVariables false
set_option linter.unusedSimpArgs false

theorem own : ownKnob Tryz.prog.godebug = none := by kernel_rfl
theorem laidOut : laidOutB Tryz.prog = true := by kernel_rfl

/-- WHAT THE WALK IS TOLD OF A SLICE OF INTEGERS THAT CAME IN: it is nil; or it leads to a row of 'cap' cells, the numbers 'zs' (the first 'len' are its elements, the rest its spare room), each fitting its kind. -/
def IsRow (k : IntKind) (w : World) (a : Option Addr) (len cap : Nat) (zs : List Int) : Prop :=
  (a = none ∧ len = 0 ∧ cap = 0 ∧ zs = []) ∨
  ∃ x, a = some x ∧ len ≤ cap ∧ cap ≤ maxLen ∧ zs.length = cap ∧ (∀ i, i < zs.length → w.cell? (x.add i) = some (.int k (zs.getD i 0))) ∧ ∀ n ∈ zs, (Lit.int k n).wf = true

theorem few {T : Tab} (h : Light10.IsLight T) : PlaceM.Few T := by
  obtain ⟨h1, _, _, _, h5⟩ := h
  exact ⟨by omega, fun g hg => by have := h5 g hg; omega⟩
theorem rails8 {T : Tab} (h : Light10.IsLight T) : T.rails.length ≤ 8 := h.2.2.1

/-! ### the walk -/
set_option maxRecDepth 10000 in
set_option maxHeartbeats 8000000 in
theorem walk (T0 : Tab.Tab) (H0 : Tab.Hd) (a1 : Int) (a2 : Int) (a3 : Int) (w : World) (w0 : Tab.IsTab w H0 T0) (w1 : (Lit.int .i64 a1).wf = true) (w2 : (Lit.int .i64 a2).wf = true) (w3 : (Lit.int .i64 a3).wf = true) :
    Calls Tryz.prog 7 #[.agg (T0.cells H0).toArray, .int .i64 a1, .int .i64 a2, .int .i64 a3] w fun e w' => e = .returned (.bool true) ∧ Below w.heap.size w w' := by
  have hz1 := (cells_ok w0).size
  have IA : Hid ((Tryz.prog.info? 32).map (·.size) = some (T0.cells H0).length) := Lib.hid (by rw [List.size_toArray] at hz1; rw [hz1]; exact infoT)
  have L1 : Hid (∀ W, Below w.heap.size w W → Calls Tryz.prog 23 #[.agg (T0.cells H0).toArray] W fun e w' => e = .returned (.bool (decide (Light10.IsLight T0))) ∧ Below W.heap.size W w') := Lib.hid (fun W hb => Light10.light_any T0 H0 W (w0.below hb))
  obtain ⟨vS, PS, RS⟩ : ∃ v : Int, Hid (PlaceM.Few T0 → ∀ W, Below w.heap.size w W → Calls Tryz.prog 25 #[.agg (T0.cells H0).toArray, .int .i64 a1] W fun e w' => e = .returned (.int .i64 v) ∧ Below W.heap.size W w') ∧ Hid (PlaceM.Few T0 ∧ T0.rails.length ≤ 8 → ∀ W, Below w.heap.size w W → Calls Tryz.prog 26 #[.agg (T0.cells H0).toArray, .int .i64 a1] W fun e w' => e = .returned (.int .i64 v) ∧ Below W.heap.size W w') :=
    ⟨ServeS.serveS T0 a1, Lib.hid (fun sm W hb => BdV.pserve_any T0 H0 a1 W (w0.below hb)), Lib.hid (fun sm W hb => ServeS.serve_any T0 H0 a1 W (w0.below hb))⟩
  obtain ⟨vP, PP, RP⟩ : ∃ v : Int, Hid (PlaceM.Few T0 → ∀ W, Below w.heap.size w W → Calls Tryz.prog 27 #[.agg (T0.cells H0).toArray, .int .i64 a2] W fun e w' => e = .returned (.int .i64 v) ∧ Below W.heap.size W w') ∧ Hid (PlaceM.Few T0 ∧ T0.rails.length ≤ 8 → ∀ W, Below w.heap.size w W → Calls Tryz.prog 28 #[.agg (T0.cells H0).toArray, .int .i64 a2] W fun e w' => e = .returned (.int .i64 v) ∧ Below W.heap.size W w') :=
    ⟨PassS.passS T0 a2, Lib.hid (fun sm W hb => BdP.ppass_any T0 H0 a2 W (w0.below hb) sm), Lib.hid (fun sm W hb => PassS.pass_any T0 H0 a2 W (w0.below hb) sm.1)⟩
  obtain ⟨vF, PF, RF⟩ : ∃ v : Int, Hid (PlaceM.Few T0 → ∀ W, Below w.heap.size w W → Calls Tryz.prog 29 #[.agg (T0.cells H0).toArray, .int .i64 a1] W fun e w' => e = .returned (.int .i64 v) ∧ Below W.heap.size W w') ∧ Hid (PlaceM.Few T0 ∧ T0.rails.length ≤ 8 → ∀ W, Below w.heap.size w W → Calls Tryz.prog 30 #[.agg (T0.cells H0).toArray, .int .i64 a1] W fun e w' => e = .returned (.int .i64 v) ∧ Below W.heap.size W w') :=
    ⟨FreeS.freeS T0 a1, Lib.hid (fun sm W hb => BdF.pfree_any T0 H0 a1 W (w0.below hb) sm), Lib.hid (fun sm W hb => FreeS.free_any T0 H0 a1 W (w0.below hb) sm.1)⟩
  obtain ⟨vE, PE, RE⟩ : ∃ v : Int, Hid (PlaceM.Few T0 → ∀ W, Below w.heap.size w W → Calls Tryz.prog 31 #[.agg (T0.cells H0).toArray, .int .i64 a3] W fun e w' => e = .returned (.int .i64 v) ∧ Below W.heap.size W w') ∧ Hid (PlaceM.Few T0 ∧ T0.rails.length ≤ 8 → ∀ W, Below w.heap.size w W → Calls Tryz.prog 32 #[.agg (T0.cells H0).toArray, .int .i64 a3] W fun e w' => e = .returned (.int .i64 v) ∧ Below W.heap.size W w') :=
    ⟨EntryS.entryS T0 a3, Lib.hid (fun sm W hb => BdE.pentry_any T0 H0 a3 W (w0.below hb)), Lib.hid (fun sm W hb => EntryS.entry_any T0 H0 a3 W (w0.below hb))⟩
  obtain ⟨vO, PO, RO⟩ : ∃ v : Int, Hid (PlaceM.Few T0 → ∀ W, Below w.heap.size w W → Calls Tryz.prog 33 #[.agg (T0.cells H0).toArray] W fun e w' => e = .returned (.int .i64 v) ∧ Below W.heap.size W w') ∧ Hid (PlaceM.Few T0 ∧ T0.rails.length ≤ 8 → ∀ W, Below w.heap.size w W → Calls Tryz.prog 34 #[.agg (T0.cells H0).toArray] W fun e w' => e = .returned (.int .i64 v) ∧ Below W.heap.size W w') :=
    ⟨OverS.overS T0, Lib.hid (fun sm W hb => BdO.pover_any T0 H0 W (w0.below hb)), Lib.hid (fun sm W hb => OverS.over_any T0 H0 W (w0.below hb) (Nat.le_trans sm.2 (by omega)))⟩
  obtain ⟨vW, PW, RW⟩ : ∃ v : Int, Hid (PlaceM.Few T0 → ∀ W, Below w.heap.size w W → Calls Tryz.prog 35 #[.agg (T0.cells H0).toArray, .int .i64 a1] W fun e w' => e = .returned (.int .i64 v) ∧ Below W.heap.size W w') ∧ Hid (PlaceM.Few T0 ∧ T0.rails.length ≤ 8 → ∀ W, Below w.heap.size w W → Calls Tryz.prog 36 #[.agg (T0.cells H0).toArray, .int .i64 a1] W fun e w' => e = .returned (.int .i64 v) ∧ Below W.heap.size W w') :=
    ⟨WaitS.waitS T0 a1, Lib.hid (fun sm W hb => BdW.pwait_any T0 H0 a1 W (w0.below hb) sm), Lib.hid (fun sm W hb => WaitS.wait_any T0 H0 a1 W (w0.below hb) sm.1 (Nat.le_trans sm.2 (by omega)))⟩
  have A0 : Hid (Below w.heap.size w (w.alloc (.cells (T0.cells H0).toArray 32))) := Lib.hid ((Below.refl _ _).alloc (Nat.le_refl _) _)
  have A1 : Hid (Lies (w.alloc (.cells (T0.cells H0).toArray 32)) ⟨w.heap.size, 0, none⟩ (T0.cells H0)) := Lib.hid (Row.lies_new w _ _)
  clear w0
  generalize T0.cells H0 = c at *
  go_enter Tryz.func7, Tryz.ntmps7
  go_upto_region 1 with fail
  generalize w.alloc (.cells c.toArray 32) = u at A0 A1 ⊢
  clear hz1
  go_wp2_with (refine Row.wpList_load_g 32 _ rfl (by first | rfl | go_simp) ⟨w.heap.size, 0, none⟩ rfl c _ A1.out Tryz.underlying32 rfl IA.out ?_)
  refine (L1.out _ A0.out).mono ?_
  rintro e u1 ⟨rfl, hb⟩
  have B0 : Hid (Below w.heap.size w u1) := Lib.hid (A0.out.trans (hb.mono A0.out.size))
  have B1 := Lib.hid (A1.out.below hb)
  clear hb A0 A1
  by_cases hl : Light10.IsLight T0
  rotate_left
  · rw [decide_eq_false hl]
    clear hl
    go_wp2_with fail
    refine (Wa10.awake_any _).mono ?_
    rintro e u2 ⟨rfl, hb⟩
    have E := Lib.hid (B0.out.trans (hb.mono B0.out.size))
    clear hb
    go_wp2
    go_ret
    exact ⟨rfl, E.out⟩
  rw [decide_eq_true hl]
  have SM := Lib.hid (few hl)
  have SR := Lib.hid (And.intro (few hl) (rails8 hl))
  clear hl L1
  go_upto_region 3 with fail
  have hne : Nonempty (Ph.S (Row.Old u1)) := ⟨⟨0, u1, Below.refl _ _⟩⟩
  have P0 : Hid (∀ p : Ph.S (Row.Old u1), Below w.heap.size w p.world) := Lib.hid (fun p => B0.out.trans (p.is.mono B0.out.size))
  refine Pw.region (Row.Old u1) [] (by kernel_rfl) (by kernel_rfl) (Row.Old.drew _) ?_
  refine Pw.load rfl (by rfl) 32 _ rfl ⟨w.heap.size, 0, none⟩ rfl c _ (fun p => B1.out.below p.is) Tryz.underlying32 rfl IA.out ?_
  (try dsimp only [Act.put]); (try simp only [List.setIfInBounds_toArray, List.set_cons_zero, List.set_cons_succ])
  iterate 1
    (refine Pw.calm rfl (fun K hK => ?_)
     go_simp
     refine hK _ ?_
     clear hK K)
  (refine Pw.calm rfl (fun K hK => ?_)
   go_simp
   refine ⟨_, fun p => Row.Old.call (PS.out SM.out _ (P0.out p)), hK _ ?_⟩
   clear hK K)
  refine Pw.load rfl (by rfl) 32 _ rfl ⟨w.heap.size, 0, none⟩ rfl c _ (fun p => B1.out.below p.is) Tryz.underlying32 rfl IA.out ?_
  (try dsimp only [Act.put]); (try simp only [List.setIfInBounds_toArray, List.set_cons_zero, List.set_cons_succ])
  iterate 1
    (refine Pw.calm rfl (fun K hK => ?_)
     go_simp
     refine hK _ ?_
     clear hK K)
  (refine Pw.calm rfl (fun K hK => ?_)
   go_simp
   refine ⟨_, fun p => Row.Old.call (RS.out SR.out _ (P0.out p)), hK _ ?_⟩
   clear hK K)
  iterate 2
    (refine Pw.calm rfl (fun K hK => ?_)
     go_simp
     refine hK _ ?_
     clear hK K)
  refine Pw.load rfl (by rfl) 32 _ rfl ⟨w.heap.size, 0, none⟩ rfl c _ (fun p => B1.out.below p.is) Tryz.underlying32 rfl IA.out ?_
  (try dsimp only [Act.put]); (try simp only [List.setIfInBounds_toArray, List.set_cons_zero, List.set_cons_succ])
  iterate 1
    (refine Pw.calm rfl (fun K hK => ?_)
     go_simp
     refine hK _ ?_
     clear hK K)
  (refine Pw.calm rfl (fun K hK => ?_)
   go_simp
   refine ⟨_, fun p => Row.Old.call (PP.out SM.out _ (P0.out p)), hK _ ?_⟩
   clear hK K)
  refine Pw.load rfl (by rfl) 32 _ rfl ⟨w.heap.size, 0, none⟩ rfl c _ (fun p => B1.out.below p.is) Tryz.underlying32 rfl IA.out ?_
  (try dsimp only [Act.put]); (try simp only [List.setIfInBounds_toArray, List.set_cons_zero, List.set_cons_succ])
  iterate 1
    (refine Pw.calm rfl (fun K hK => ?_)
     go_simp
     refine hK _ ?_
     clear hK K)
  (refine Pw.calm rfl (fun K hK => ?_)
   go_simp
   refine ⟨_, fun p => Row.Old.call (RP.out SR.out _ (P0.out p)), hK _ ?_⟩
   clear hK K)
  iterate 3
    (refine Pw.calm rfl (fun K hK => ?_)
     go_simp
     refine hK _ ?_
     clear hK K)
  refine Pw.load rfl (by rfl) 32 _ rfl ⟨w.heap.size, 0, none⟩ rfl c _ (fun p => B1.out.below p.is) Tryz.underlying32 rfl IA.out ?_
  (try dsimp only [Act.put]); (try simp only [List.setIfInBounds_toArray, List.set_cons_zero, List.set_cons_succ])
  iterate 1
    (refine Pw.calm rfl (fun K hK => ?_)
     go_simp
     refine hK _ ?_
     clear hK K)
  (refine Pw.calm rfl (fun K hK => ?_)
   go_simp
   refine ⟨_, fun p => Row.Old.call (PF.out SM.out _ (P0.out p)), hK _ ?_⟩
   clear hK K)
  refine Pw.load rfl (by rfl) 32 _ rfl ⟨w.heap.size, 0, none⟩ rfl c _ (fun p => B1.out.below p.is) Tryz.underlying32 rfl IA.out ?_
  (try dsimp only [Act.put]); (try simp only [List.setIfInBounds_toArray, List.set_cons_zero, List.set_cons_succ])
  iterate 1
    (refine Pw.calm rfl (fun K hK => ?_)
     go_simp
     refine hK _ ?_
     clear hK K)
  (refine Pw.calm rfl (fun K hK => ?_)
   go_simp
   refine ⟨_, fun p => Row.Old.call (RF.out SR.out _ (P0.out p)), hK _ ?_⟩
   clear hK K)
  iterate 3
    (refine Pw.calm rfl (fun K hK => ?_)
     go_simp
     refine hK _ ?_
     clear hK K)
  refine Pw.nil ?_
  intro u9 hb9
  have B2 := Lib.hid (B0.out.trans (hb9.mono B0.out.size))
  have B3 := Lib.hid (B1.out.below hb9)
  clear hb9 hne P0 B0 B1
  go_upto_region 4 with fail
  have hne : Nonempty (Ph.S (Row.Old u9)) := ⟨⟨0, u9, Below.refl _ _⟩⟩
  have P0 : Hid (∀ p : Ph.S (Row.Old u9), Below w.heap.size w p.world) := Lib.hid (fun p => B2.out.trans (p.is.mono B2.out.size))
  refine Pw.region (Row.Old u9) [] (by kernel_rfl) (by kernel_rfl) (Row.Old.drew _) ?_
  iterate 2
    (refine Pw.calm rfl (fun K hK => ?_)
     go_simp
     refine hK _ ?_
     clear hK K)
  refine Pw.load rfl (by rfl) 32 _ rfl ⟨w.heap.size, 0, none⟩ rfl c _ (fun p => B3.out.below p.is) Tryz.underlying32 rfl IA.out ?_
  (try dsimp only [Act.put]); (try simp only [List.setIfInBounds_toArray, List.set_cons_zero, List.set_cons_succ])
  iterate 1
    (refine Pw.calm rfl (fun K hK => ?_)
     go_simp
     refine hK _ ?_
     clear hK K)
  (refine Pw.calm rfl (fun K hK => ?_)
   go_simp
   refine ⟨_, fun p => Row.Old.call (PE.out SM.out _ (P0.out p)), hK _ ?_⟩
   clear hK K)
  refine Pw.load rfl (by rfl) 32 _ rfl ⟨w.heap.size, 0, none⟩ rfl c _ (fun p => B3.out.below p.is) Tryz.underlying32 rfl IA.out ?_
  (try dsimp only [Act.put]); (try simp only [List.setIfInBounds_toArray, List.set_cons_zero, List.set_cons_succ])
  iterate 1
    (refine Pw.calm rfl (fun K hK => ?_)
     go_simp
     refine hK _ ?_
     clear hK K)
  (refine Pw.calm rfl (fun K hK => ?_)
   go_simp
   refine ⟨_, fun p => Row.Old.call (RE.out SR.out _ (P0.out p)), hK _ ?_⟩
   clear hK K)
  iterate 3
    (refine Pw.calm rfl (fun K hK => ?_)
     go_simp
     refine hK _ ?_
     clear hK K)
  refine Pw.load rfl (by rfl) 32 _ rfl ⟨w.heap.size, 0, none⟩ rfl c _ (fun p => B3.out.below p.is) Tryz.underlying32 rfl IA.out ?_
  (try dsimp only [Act.put]); (try simp only [List.setIfInBounds_toArray, List.set_cons_zero, List.set_cons_succ])
  (refine Pw.calm rfl (fun K hK => ?_)
   go_simp
   refine ⟨_, fun p => Row.Old.call (PO.out SM.out _ (P0.out p)), hK _ ?_⟩
   clear hK K)
  refine Pw.load rfl (by rfl) 32 _ rfl ⟨w.heap.size, 0, none⟩ rfl c _ (fun p => B3.out.below p.is) Tryz.underlying32 rfl IA.out ?_
  (try dsimp only [Act.put]); (try simp only [List.setIfInBounds_toArray, List.set_cons_zero, List.set_cons_succ])
  (refine Pw.calm rfl (fun K hK => ?_)
   go_simp
   refine ⟨_, fun p => Row.Old.call (RO.out SR.out _ (P0.out p)), hK _ ?_⟩
   clear hK K)
  iterate 3
    (refine Pw.calm rfl (fun K hK => ?_)
     go_simp
     refine hK _ ?_
     clear hK K)
  refine Pw.load rfl (by rfl) 32 _ rfl ⟨w.heap.size, 0, none⟩ rfl c _ (fun p => B3.out.below p.is) Tryz.underlying32 rfl IA.out ?_
  (try dsimp only [Act.put]); (try simp only [List.setIfInBounds_toArray, List.set_cons_zero, List.set_cons_succ])
  iterate 1
    (refine Pw.calm rfl (fun K hK => ?_)
     go_simp
     refine hK _ ?_
     clear hK K)
  (refine Pw.calm rfl (fun K hK => ?_)
   go_simp
   refine ⟨_, fun p => Row.Old.call (PW.out SM.out _ (P0.out p)), hK _ ?_⟩
   clear hK K)
  refine Pw.load rfl (by rfl) 32 _ rfl ⟨w.heap.size, 0, none⟩ rfl c _ (fun p => B3.out.below p.is) Tryz.underlying32 rfl IA.out ?_
  (try dsimp only [Act.put]); (try simp only [List.setIfInBounds_toArray, List.set_cons_zero, List.set_cons_succ])
  iterate 1
    (refine Pw.calm rfl (fun K hK => ?_)
     go_simp
     refine hK _ ?_
     clear hK K)
  (refine Pw.calm rfl (fun K hK => ?_)
   go_simp
   refine ⟨_, fun p => Row.Old.call (RW.out SR.out _ (P0.out p)), hK _ ?_⟩
   clear hK K)
  iterate 3
    (refine Pw.calm rfl (fun K hK => ?_)
     go_simp
     refine hK _ ?_
     clear hK K)
  (refine Pw.calm rfl (fun K hK => ?_)
   go_simp
   refine ⟨_, fun p => Row.Old.call (Wa10.awake_any _), hK _ ?_⟩
   clear hK K)
  iterate 2
    (refine Pw.calm rfl (fun K hK => ?_)
     go_simp
     refine hK _ ?_
     clear hK K)
  refine Pw.nil ?_
  intro u9 hb9
  have E := Lib.hid (B2.out.trans (hb9.mono B2.out.size))
  clear hb9 hne P0
  go_wp2
  go_ret
  exact ⟨rfl, E.out⟩

/-! ### the row's step -/
set_option maxRecDepth 100000 in
theorem lifted (os : Os) (started : os.Started) (H : Type) (enc : TypeId × Value → H) :
    ReturnsInHanded {} Tryz.checked os 7 .any (Rows.boundPartsSpec.pre6 enc Tryz.prog Tryz.f7 Rows.boundPartsRow.domain false) (Rows.boundPartsSpec.post enc Tryz.prog Tryz.f7 false true false false) := by
  refine returnsInHanded_of_change (C := Tryz.checked) own started (by kernel_rfl) Tryz.func7
    (ChangeSpec.witness6 (enc := enc) (C := Tryz.checked) false ⟨#[], #[.agg (Clone.zTab.cells Clone.zHd).toArray, .int .i64 0, .int .i64 0, .int .i64 0], []⟩ 8 (by kernel_rfl) (by kernel_rfl) (by kernel_rfl) (by kernel_rfl)) ?_
  intro W base args ds gs before hval0 hW hcnd _
  have hval : ∀ (j : Nat) t v, Tryz.f7.params[j]? = some t → args[j]? = some v → Value.okWide Tryz.prog W .any base t v := hval0
  have hW' := hW
  obtain ⟨p, q, hA0, hV, rfl, hfz, hnd⟩ := hW
  have hA : DataW.TrodAll enc Tryz.prog W 0 (fun _ => true) true Tryz.f7.params.toList args.toList ds p := hA0
  rw [Tryz.params7] at hA hval
  obtain ⟨v0, vs0, d0, ds0, p0, q0, hargs, rfl, rfl, h0, r0⟩ := trodAll_cons hA
  obtain ⟨v1, vs1, d1, ds1, p1, q1, rfl, rfl, rfl, h1, r1⟩ := trodAll_cons r0
  obtain ⟨v2, vs2, d2, ds2, p2, q2, rfl, rfl, rfl, h2, r2⟩ := trodAll_cons r1
  obtain ⟨v3, vs3, d3, ds3, p3, q3, rfl, rfl, rfl, h3, r3⟩ := trodAll_cons r2
  obtain ⟨rfl, rfl, rfl⟩ := trodAll_nil r3
  obtain rfl : args = #[v0, v1, v2, v3] := by cases args; simp_all
  obtain ⟨rfl, rfl⟩ := trodVars_none hV
  obtain ⟨c0, rfl, _⟩ := okWide_struct Tryz.underlying32 (hval 0 32 v0 rfl rfl)
  have k0 := h0
  have lt0 : ∀ x ∈ p0, x.block < W.heap.size := by obtain ⟨m, hm⟩ := k0; exact DataW.trod_lt m _ _ _ hm
  obtain ⟨H0, T0, e0, w0⟩ : ∃ (h : Tab.Hd) (T : Tab.Tab), c0 = (T.cells h).toArray ∧ Tab.IsTab W h T := by
    obtain ⟨fuel, hf⟩ := h0
    obtain ⟨h, T, e, k⟩ := TabArg.open_tab hf
    exact ⟨h, T, by rw [← e]; simp [Value.cells], k⟩
  subst e0
  obtain ⟨a1, rfl, rfl, rfl, w1⟩ := open_int Tryz.underlying3 (hval 1 3 v1 rfl rfl) h1
  obtain ⟨a2, rfl, rfl, rfl, w2⟩ := open_int Tryz.underlying3 (hval 2 3 v2 rfl rfl) h2
  obtain ⟨a3, rfl, rfl, rfl, w3⟩ := open_int Tryz.underlying3 (hval 3 3 v3 rfl rfl) h3
  clear hA0 hval0
  refine (walk T0 H0 a1 a2 a3 W w0 w1 w2 w3).mono fun e W' ⟨he, bel⟩ => ?_
  subst he
  exact ⟨_, rfl, _, _, _, [], _, [], hW', trodAll_mk1 (shut_bool Tryz.underlying4 _), (trodAll_cons_mk (Below.trod laidOut (by kernel_rfl) (of_decide_eq_true (by kernel_rfl)) k0 bel lt0) (trodAll_cons_mk (shut_int Tryz.underlying3 w1) (trodAll_cons_mk (shut_int Tryz.underlying3 w2) (trodAll_cons_mk (shut_int Tryz.underlying3 w3) trodAll_mk0)))), rfl, bel.frame _, fun h => by cases h⟩

theorem over : Rows.boundPartsRow.holds Tryz.pinned (OpenSpec.ofChange Rows.boundPartsSpec) :=
  OpenClaim.holds_of_wide 7 Tryz.f7 rfl rfl rfl rfl rfl rfl rfl ⟨rfl, rfl, rfl, rfl, rfl⟩ rfl rfl rfl rfl rfl (by kernel_rfl) Tryz.func7 (by kernel_rfl)
    (of_decide_eq_true (by kernel_rfl)) (by unfold Func.isWrapper; first | (rw [if_pos (by decide +kernel)]; kernel_rfl) | (rw [if_neg (by decide +kernel)]; exact ⟨rfl, rfl⟩))
    (fun os started H enc _ => lifted os started H enc)

/-- the statement -/
theorem proved : Rows.BoundPartsSaid :=
  over
#print axioms proved
end Go.Proofs.YtjolhoilcibdfaaGreat.boundParts
