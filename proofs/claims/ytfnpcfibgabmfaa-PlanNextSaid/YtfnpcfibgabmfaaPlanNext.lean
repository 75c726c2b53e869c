/- PlanNext returns true at any table and any numbers: plan's Next and Following return what the document's own return. No condition. -/
import Derived.Test.YtfnpcfibgabmfaaRows
import Derived.Test.YtfnpcfibgabmfaaTw8
import Derived.Test.YtfnpcfibgabmfaaPlanF
import Derived.Test.YtfnpcfibgabmfaaPlanG
import Derived.Test.YtfnpcfibgabmfaaPlanO
import Derived.Test.YtfnpcfibgabmfaaLight8
import Derived.Test.YtfnpcfibgabmfaaTabArg
import Derived.Test.YtfnpcfibgabmfaaPw
import Derived.Deep.Cut
import Derived.WalkKit
import Derived.WalkLawsBesides
import Derived.ProofKit
import Derived.OpenShut
import Derived.ShutString
import Derived.ChangeOld
import Derived.Below
namespace Go.Proofs.Ytfnpcfibgabmfaa.planNext
open Go.ChangeShapes Go.WideShapes Go.ChangeAt Go.RowKit
open Tab PlaceM PlanM
open May (infoT)
set_option linter.unusedVariables false
set_option linter.unusedSimpArgs false

theorem own : ownKnob Try.prog.godebug = none := by kernel_rfl
theorem laidOut : laidOutB Try.prog = true := by kernel_rfl

/-- WHAT THE WALK IS TOLD OF A SLICE OF INTEGERS THAT CAME IN: it is nil; or it leads to a row of 'cap' cells, the numbers 'zs' (the first 'len' are its elements, the rest its spare room), each fitting its kind. -/
def IsRow (k : IntKind) (w : World) (a : Option Addr) (len cap : Nat) (zs : List Int) : Prop :=
  (a = none ∧ len = 0 ∧ cap = 0 ∧ zs = []) ∨
  ∃ x, a = some x ∧ len ≤ cap ∧ cap ≤ maxLen ∧ zs.length = cap ∧ (∀ i, i < zs.length → w.cell? (x.add i) = some (.int k (zs.getD i 0))) ∧ ∀ n ∈ zs, (Lit.int k n).wf = true

/-! ### the walk -/
set_option maxRecDepth 10000 in
set_option maxHeartbeats 8000000 in
theorem walk (T0 : Tab.Tab) (H0 : Tab.Hd) (a1 : Int) (a2 : Int) (a3 : Int) (a4 : Int) (w : World) (w0 : Tab.IsTab w H0 T0) (w1 : (Lit.int .i64 a1).wf = true) (w2 : (Lit.int .i64 a2).wf = true) (w3 : (Lit.int .i64 a3).wf = true) (w4 : (Lit.int .i64 a4).wf = true) :
    Calls Try.prog 6 #[.agg (T0.cells H0).toArray, .int .i64 a1, .int .i64 a2, .int .i64 a3, .int .i64 a4] w fun e w' => e = .returned (.bool true) ∧ Below w.heap.size w w' := by
  have hz1 := (cells_ok w0).size
  have IA : Hid ((Try.prog.info? 33).map (·.size) = some (T0.cells H0).length) := Lib.hid (by rw [List.size_toArray] at hz1; rw [hz1]; exact infoT)
  have L1 : Hid (∀ W, Below w.heap.size w W → Calls Try.prog 19 #[.agg (T0.cells H0).toArray] W fun e w' => e = .returned (.bool (decide (Light8.IsLight T0))) ∧ Below W.heap.size W w') := Lib.hid (fun W hb => Light8.light_any T0 H0 W (w0.below hb))
  have W0 : Hid (∀ W, Below w.heap.size w W → IsTab W H0 T0) := Lib.hid (fun W hb => w0.below hb)
  obtain ⟨n, N1, N2⟩ : ∃ n : Int, Hid (∀ W, Below w.heap.size w W → Calls Try.prog 29 #[.agg (T0.cells H0).toArray, .int .i64 a1, .int .i64 a2, .int .i64 a3, .int .i64 a4] W fun e w' => e = .returned (.int .i64 n) ∧ Below W.heap.size W w')
      ∧ Hid (PlaceM.Few T0 → ∀ W, Below w.heap.size w W → Calls Try.prog 30 #[.agg (T0.cells H0).toArray, .int .i64 a1, .int .i64 a2, .int .i64 a3, .int .i64 a4] W fun e w' => e = .returned (.int .i64 n) ∧ Below W.heap.size W w') :=
    ⟨nextS T0 a1 a2 a3 a4, Lib.hid (fun W hb => PlanN.next_any T0 H0 a1 a2 a3 a4 W (W0.out W hb)), Lib.hid (fun sm W hb => PlanD.rnext_any T0 H0 a1 a2 a3 a4 W (W0.out W hb) sm)⟩
  obtain ⟨m, M1, M2⟩ : ∃ m : Int, Hid (PlaceM.Few T0 → ∀ W, Below w.heap.size w W → Calls Try.prog 31 #[.agg (T0.cells H0).toArray, .int .i64 a1, .int .i64 a4] W fun e w' => e = .returned (.int .i64 m) ∧ Below W.heap.size W w')
      ∧ Hid (PlaceM.Few T0 → ∀ W, Below w.heap.size w W → Calls Try.prog 32 #[.agg (T0.cells H0).toArray, .int .i64 a1, .int .i64 a4] W fun e w' => e = .returned (.int .i64 m) ∧ Below W.heap.size W w') :=
    ⟨followS T0 a1 a4, Lib.hid (fun sm W hb => PlanF.follow_any T0 H0 a1 a4 W (W0.out W hb) sm.groups), Lib.hid (fun sm W hb => PlanG.rfollow_any T0 H0 a1 a4 W (W0.out W hb) sm)⟩
  have A0 : Hid (Below w.heap.size w (w.alloc (.cells (T0.cells H0).toArray 33))) := Lib.hid ((Below.refl _ _).alloc (Nat.le_refl _) _)
  have A1 : Hid (Lies (w.alloc (.cells (T0.cells H0).toArray 33)) ⟨w.heap.size, 0, none⟩ (T0.cells H0)) := Lib.hid (Row.lies_new w _ _)
  clear W0 w0
  generalize T0.cells H0 = c at *
  go_enter Try.func6, Try.ntmps6
  go_upto_region 1 with fail
  generalize w.alloc (.cells c.toArray 33) = u at A0 A1 ⊢
  clear hz1
  go_wp2_with (refine Row.wpList_load_g 33 _ rfl (by first | rfl | go_simp) ⟨w.heap.size, 0, none⟩ rfl c _ A1.out Try.underlying33 rfl IA.out ?_)
  refine (L1.out _ A0.out).mono ?_
  rintro e u1 ⟨rfl, hb⟩
  have B0 : Hid (Below w.heap.size w u1) := Lib.hid (A0.out.trans (hb.mono A0.out.size))
  have B1 := Lib.hid (A1.out.below hb)
  clear hb A0 A1
  by_cases hl : Light8.IsLight T0
  rotate_left
  · rw [decide_eq_false hl]
    clear hl
    go_wp2_with fail
    refine (Wa8.awake_any _).mono ?_
    rintro e u2 ⟨rfl, hb⟩
    have E := Lib.hid (B0.out.trans (hb.mono B0.out.size))
    clear hb
    go_wp2
    go_ret
    exact ⟨rfl, E.out⟩
  rw [decide_eq_true hl]
  have SM := Lib.hid hl.few
  clear hl L1
  go_upto_region 3 with fail
  have hne : Nonempty (Ph.S (Row.Old u1)) := ⟨⟨0, u1, Below.refl _ _⟩⟩
  have P0 : Hid (∀ p : Ph.S (Row.Old u1), Below w.heap.size w p.world) := Lib.hid (fun p => B0.out.trans (p.is.mono B0.out.size))
  refine Pw.region (Row.Old u1) [] (by kernel_rfl) (by kernel_rfl) (Row.Old.drew _) ?_
  refine Pw.load rfl (by rfl) 33 _ rfl ⟨w.heap.size, 0, none⟩ rfl c _ (fun p => B1.out.below p.is) Try.underlying33 rfl IA.out ?_
  (try dsimp only [Act.put]); (try simp only [List.setIfInBounds_toArray, List.set_cons_zero, List.set_cons_succ])
  iterate 4
    (refine Pw.calm rfl (fun K hK => ?_)
     go_simp
     refine hK _ ?_
     clear hK K)
  (refine Pw.calm rfl (fun K hK => ?_)
   go_simp
   refine ⟨_, fun p => Row.Old.call (N1.out _ (P0.out p)), hK _ ?_⟩
   clear hK K)
  refine Pw.load rfl (by rfl) 33 _ rfl ⟨w.heap.size, 0, none⟩ rfl c _ (fun p => B1.out.below p.is) Try.underlying33 rfl IA.out ?_
  (try dsimp only [Act.put]); (try simp only [List.setIfInBounds_toArray, List.set_cons_zero, List.set_cons_succ])
  iterate 4
    (refine Pw.calm rfl (fun K hK => ?_)
     go_simp
     refine hK _ ?_
     clear hK K)
  (refine Pw.calm rfl (fun K hK => ?_)
   go_simp
   refine ⟨_, fun p => Row.Old.call (N2.out SM.out _ (P0.out p)), hK _ ?_⟩
   clear hK K)
  iterate 1
    (refine Pw.calm rfl (fun K hK => ?_)
     go_simp
     refine hK _ ?_
     clear hK K)
  (try simp only [beq_self_eq_true])
  iterate 1
    (refine Pw.calm rfl (fun K hK => ?_)
     go_simp
     refine hK _ ?_
     clear hK K)
  refine Pw.load rfl (by rfl) 33 _ rfl ⟨w.heap.size, 0, none⟩ rfl c _ (fun p => B1.out.below p.is) Try.underlying33 rfl IA.out ?_
  (try dsimp only [Act.put]); (try simp only [List.setIfInBounds_toArray, List.set_cons_zero, List.set_cons_succ])
  iterate 2
    (refine Pw.calm rfl (fun K hK => ?_)
     go_simp
     refine hK _ ?_
     clear hK K)
  (refine Pw.calm rfl (fun K hK => ?_)
   go_simp
   refine ⟨_, fun p => Row.Old.call (M1.out SM.out _ (P0.out p)), hK _ ?_⟩
   clear hK K)
  refine Pw.load rfl (by rfl) 33 _ rfl ⟨w.heap.size, 0, none⟩ rfl c _ (fun p => B1.out.below p.is) Try.underlying33 rfl IA.out ?_
  (try dsimp only [Act.put]); (try simp only [List.setIfInBounds_toArray, List.set_cons_zero, List.set_cons_succ])
  iterate 2
    (refine Pw.calm rfl (fun K hK => ?_)
     go_simp
     refine hK _ ?_
     clear hK K)
  (refine Pw.calm rfl (fun K hK => ?_)
   go_simp
   refine ⟨_, fun p => Row.Old.call (M2.out SM.out _ (P0.out p)), hK _ ?_⟩
   clear hK K)
  iterate 1
    (refine Pw.calm rfl (fun K hK => ?_)
     go_simp
     refine hK _ ?_
     clear hK K)
  (try simp only [beq_self_eq_true])
  iterate 2
    (refine Pw.calm rfl (fun K hK => ?_)
     go_simp
     refine hK _ ?_
     clear hK K)
  (refine Pw.calm rfl (fun K hK => ?_)
   go_simp
   refine ⟨_, fun p => Row.Old.call (Wa8.awake_any _), hK _ ?_⟩
   clear hK K)
  iterate 2
    (refine Pw.calm rfl (fun K hK => ?_)
     go_simp
     refine hK _ ?_
     clear hK K)
  refine Pw.nil ?_
  intro u9 hb9
  have E := Lib.hid (B0.out.trans (hb9.mono B0.out.size))
  clear hb9 hne P0
  go_wp2
  go_ret
  exact ⟨rfl, E.out⟩

/-! ### the row's step -/
set_option maxRecDepth 100000 in
theorem lifted (os : Os) (started : os.Started) (H : Type) (enc : TypeId × Value → H) :
    ReturnsInHanded {} Try.checked os 6 .any (Rows.planNextSpec.pre6 enc Try.prog Try.f6 Rows.planNextRow.domain false) (Rows.planNextSpec.post enc Try.prog Try.f6 false true false false) := by
  refine returnsInHanded_of_change (C := Try.checked) own started (by kernel_rfl) Try.func6
    (ChangeSpec.witness6 (enc := enc) (C := Try.checked) false ⟨#[], #[.agg (Clone.zTab.cells Clone.zHd).toArray, .int .i64 0, .int .i64 0, .int .i64 0, .int .i64 0], []⟩ 8 (by kernel_rfl) (by kernel_rfl) (by kernel_rfl) (by kernel_rfl)) ?_
  intro W base args ds gs before hval0 hW hcnd _
  have hval : ∀ (j : Nat) t v, Try.f6.params[j]? = some t → args[j]? = some v → Value.okWide Try.prog W .any base t v := hval0
  have hW' := hW
  obtain ⟨p, q, hA0, hV, rfl, hfz, hnd⟩ := hW
  have hA : DataW.TrodAll enc Try.prog W 0 (fun _ => true) true Try.f6.params.toList args.toList ds p := hA0
  rw [Try.params6] at hA hval
  obtain ⟨v0, vs0, d0, ds0, p0, q0, hargs, rfl, rfl, h0, r0⟩ := trodAll_cons hA
  obtain ⟨v1, vs1, d1, ds1, p1, q1, rfl, rfl, rfl, h1, r1⟩ := trodAll_cons r0
  obtain ⟨v2, vs2, d2, ds2, p2, q2, rfl, rfl, rfl, h2, r2⟩ := trodAll_cons r1
  obtain ⟨v3, vs3, d3, ds3, p3, q3, rfl, rfl, rfl, h3, r3⟩ := trodAll_cons r2
  obtain ⟨v4, vs4, d4, ds4, p4, q4, rfl, rfl, rfl, h4, r4⟩ := trodAll_cons r3
  obtain ⟨rfl, rfl, rfl⟩ := trodAll_nil r4
  obtain rfl : args = #[v0, v1, v2, v3, v4] := by cases args; simp_all
  obtain ⟨rfl, rfl⟩ := trodVars_none hV
  obtain ⟨c0, rfl, _⟩ := okWide_struct Try.underlying33 (hval 0 33 v0 rfl rfl)
  have k0 := h0
  have lt0 : ∀ x ∈ p0, x.block < W.heap.size := by obtain ⟨m, hm⟩ := k0; exact DataW.trod_lt m _ _ _ hm
  obtain ⟨H0, T0, e0, w0⟩ : ∃ (h : Tab.Hd) (T : Tab.Tab), c0 = (T.cells h).toArray ∧ Tab.IsTab W h T := by
    obtain ⟨fuel, hf⟩ := h0
    obtain ⟨h, T, e, k⟩ := TabArg.open_tab hf
    exact ⟨h, T, by rw [← e]; simp [Value.cells], k⟩
  subst e0
  obtain ⟨a1, rfl, rfl, rfl, w1⟩ := open_int Try.underlying3 (hval 1 3 v1 rfl rfl) h1
  obtain ⟨a2, rfl, rfl, rfl, w2⟩ := open_int Try.underlying3 (hval 2 3 v2 rfl rfl) h2
  obtain ⟨a3, rfl, rfl, rfl, w3⟩ := open_int Try.underlying3 (hval 3 3 v3 rfl rfl) h3
  obtain ⟨a4, rfl, rfl, rfl, w4⟩ := open_int Try.underlying3 (hval 4 3 v4 rfl rfl) h4
  clear hA0 hval0
  refine (walk T0 H0 a1 a2 a3 a4 W w0 w1 w2 w3 w4).mono fun e W' ⟨he, bel⟩ => ?_
  subst he
  exact ⟨_, rfl, _, _, _, [], _, [], hW', trodAll_mk1 (shut_bool Try.underlying4 _), (trodAll_cons_mk (Below.trod laidOut (by kernel_rfl) (of_decide_eq_true (by kernel_rfl)) k0 bel lt0) (trodAll_cons_mk (shut_int Try.underlying3 w1) (trodAll_cons_mk (shut_int Try.underlying3 w2) (trodAll_cons_mk (shut_int Try.underlying3 w3) (trodAll_cons_mk (shut_int Try.underlying3 w4) trodAll_mk0))))), rfl, bel.frame _, fun h => by cases h⟩

theorem over : Rows.planNextRow.holds Try.pinned (OpenSpec.ofChange Rows.planNextSpec) :=
  OpenClaim.holds_of_wide 6 Try.f6 rfl rfl rfl rfl rfl rfl rfl ⟨rfl, rfl, rfl, rfl, rfl⟩ rfl rfl rfl rfl rfl (by kernel_rfl) Try.func6 (by kernel_rfl)
    (of_decide_eq_true (by kernel_rfl)) (by unfold Func.isWrapper; first | (rw [if_pos (by decide +kernel)]; kernel_rfl) | (rw [if_neg (by decide +kernel)]; exact ⟨rfl, rfl⟩))
    (fun os started H enc _ => lifted os started H enc)

/-- the statement -/
theorem proved : Rows.PlanNextSaid :=
  over
#print axioms proved
end Go.Proofs.Ytfnpcfibgabmfaa.planNext
