/- PlanAll returns true at any table and any numbers: plan's Where, Beside, Members and On return what the document's own return. No condition. -/
import Derived.Test.YtfnpcfibgabmfaaRows
import Derived.Test.YtfnpcfibgabmfaaTw8
import Derived.Test.YtfnpcfibgabmfaaPlanF
import Derived.Test.YtfnpcfibgabmfaaPlanG
import Derived.Test.YtfnpcfibgabmfaaPlanO
import Derived.Test.YtfnpcfibgabmfaaLight8
import Derived.Test.YtfnpcfibgabmfaaTabArg
import Derived.Test.YtfnpcfibgabmfaaPw
import Derived.Deep.Cut
import Derived.Test.YtfnpcfibgabmfaaPlanW
import Derived.WalkKit
import Derived.WalkLawsBesides
import Derived.ProofKit
import Derived.OpenShut
import Derived.ShutString
import Derived.ChangeOld
import Derived.Below
namespace Go.Proofs.Ytfnpcfibgabmfaa.planAll
open Go.ChangeShapes Go.WideShapes Go.ChangeAt Go.RowKit
open Tab PlaceM PlanM
open May (infoT)
set_option linter.unusedVariables false
set_option linter.unusedSimpArgs false

theorem own : ownKnob Try.prog.godebug = none := by kernel_rfl
theorem laidOut : laidOutB Try.prog = true := by kernel_rfl

/-- WHAT THE WALK IS TOLD OF A SLICE OF INTEGERS THAT CAME IN: it is nil; or it leads to a row of 'cap' cells, the numbers 'zs' (the first 'len' are its elements, the rest its spare room), each fitting its kind. -/
def IsRow (k : IntKind) (w : World) (a : Option Addr) (len cap : Nat) (zs : List Int) : Prop :=
  (a = none ∧ len = 0 ∧ cap = 0 ∧ zs = []) ∨
  ∃ x, a = some x ∧ len ≤ cap ∧ cap ≤ maxLen ∧ zs.length = cap ∧ (∀ i, i < zs.length → w.cell? (x.add i) = some (.int k (zs.getD i 0))) ∧ ∀ n ∈ zs, (Lit.int k n).wf = true

/-! ### the walk -/
set_option maxRecDepth 10000 in
set_option maxHeartbeats 8000000 in
theorem walk (T0 : Tab.Tab) (H0 : Tab.Hd) (a1 : Int) (a2 : Int) (a3 : Int) (w : World) (w0 : Tab.IsTab w H0 T0) (w1 : (Lit.int .i64 a1).wf = true) (w2 : (Lit.int .i64 a2).wf = true) (w3 : (Lit.int .i64 a3).wf = true) :
    Calls Try.prog 5 #[.agg (T0.cells H0).toArray, .int .i64 a1, .int .i64 a2, .int .i64 a3] w fun e w' => e = .returned (.bool true) ∧ Below w.heap.size w w' := by
  have hz1 := (cells_ok w0).size
  have IA : Hid ((Try.prog.info? 33).map (·.size) = some (T0.cells H0).length) := Lib.hid (by rw [List.size_toArray] at hz1; rw [hz1]; exact infoT)
  have L1 : Hid (∀ W, Below w.heap.size w W → Calls Try.prog 19 #[.agg (T0.cells H0).toArray] W fun e w' => e = .returned (.bool (decide (Light8.IsLight T0))) ∧ Below W.heap.size W w') := Lib.hid (fun W hb => Light8.light_any T0 H0 W (w0.below hb))
  have W0 : Hid (∀ W, Below w.heap.size w W → IsTab W H0 T0) := Lib.hid (fun W hb => w0.below hb)
  obtain ⟨g1, k1, i1, p1, ok, WA, WB⟩ : ∃ (g1 k1 i1 p1 : Int) (ok : Bool), Hid (∀ W, Below w.heap.size w W → Calls Try.prog 21 #[.agg (T0.cells H0).toArray, .int .i64 a1] W fun e w' => e = .returned (.tuple #[I g1, I k1, I i1, .bool ok]) ∧ Below W.heap.size W w')
      ∧ Hid (PlaceM.Few T0 → ∀ W, Below w.heap.size w W → Calls Try.prog 22 #[.agg (T0.cells H0).toArray, .int .i64 a1] W fun e w' => e = .returned (.tuple #[.agg #[I g1, I k1, I i1, I p1], .bool ok]) ∧ Below W.heap.size W w') := by
    have h1 := fun W hb => PlanW.pwhere_any T0 H0 a1 W (W0.out W hb)
    have h2 := fun sm W hb => Where.where_any T0 H0 a1 W (W0.out W hb) sm
    cases ho : where_ T0 a1 with
    | none => rw [ho] at h1 h2; exact ⟨0, 0, 0, 0, false, Lib.hid h1, Lib.hid h2⟩
    | some x => rw [ho] at h1 h2; exact ⟨x.g, x.k, x.i, x.p, true, Lib.hid h1, Lib.hid h2⟩
  obtain ⟨bb, N1, N2⟩ : ∃ n : Bool, Hid (∀ W, Below w.heap.size w W → Calls Try.prog 23 #[.agg (T0.cells H0).toArray, .int .i64 a1, .int .i64 a2] W fun e w' => e = .returned (.bool n) ∧ Below W.heap.size W w')
      ∧ Hid (PlaceM.Few T0 → ∀ W, Below w.heap.size w W → Calls Try.prog 24 #[.agg (T0.cells H0).toArray, .int .i64 a1, .int .i64 a2] W fun e w' => e = .returned (.bool n) ∧ Below W.heap.size W w') :=
    ⟨beside T0 a1 a2, Lib.hid (fun W hb => PlanW.pbeside_any T0 H0 a1 a2 W (W0.out W hb)), Lib.hid (fun sm W hb => Where.beside_any T0 H0 a1 a2 W (W0.out W hb) sm)⟩
  obtain ⟨m, M1, M2⟩ : ∃ m : Int, Hid (∀ W, Below w.heap.size w W → Calls Try.prog 25 #[.agg (T0.cells H0).toArray, .int .i64 a3] W fun e w' => e = .returned (.int .i64 m) ∧ Below W.heap.size W w')
      ∧ Hid (PlaceM.Few T0 → ∀ W, Below w.heap.size w W → Calls Try.prog 26 #[.agg (T0.cells H0).toArray, .int .i64 a3] W fun e w' => e = .returned (.int .i64 m) ∧ Below W.heap.size W w') :=
    ⟨(membS T0 a3 : Nat), Lib.hid (fun W hb => PlanC.members_any T0 H0 a3 W (W0.out W hb)), Lib.hid (fun sm W hb => PlanD.rmembers_any T0 H0 a3 W (W0.out W hb) sm)⟩
  obtain ⟨o, O1, O2⟩ : ∃ m : Int, Hid (∀ W, Below w.heap.size w W → Calls Try.prog 27 #[.agg (T0.cells H0).toArray] W fun e w' => e = .returned (.int .i64 m) ∧ Below W.heap.size W w')
      ∧ Hid (∀ W, Below w.heap.size w W → Calls Try.prog 28 #[.agg (T0.cells H0).toArray] W fun e w' => e = .returned (.int .i64 m) ∧ Below W.heap.size W w') :=
    ⟨(OnS.onS T0 : Nat), Lib.hid (fun W hb => PlanO.pon_any T0 H0 W (W0.out W hb)), Lib.hid (fun W hb => OnS.on_any T0 H0 W (W0.out W hb))⟩
  have A0 : Hid (Below w.heap.size w (w.alloc (.cells (T0.cells H0).toArray 33))) := Lib.hid ((Below.refl _ _).alloc (Nat.le_refl _) _)
  have A1 : Hid (Lies (w.alloc (.cells (T0.cells H0).toArray 33)) ⟨w.heap.size, 0, none⟩ (T0.cells H0)) := Lib.hid (Row.lies_new w _ _)
  clear W0 w0
  generalize T0.cells H0 = c at *
  go_enter Try.func5, Try.ntmps5
  go_upto_region 1 with fail
  generalize w.alloc (.cells c.toArray 33) = u at A0 A1 ⊢
  clear hz1
  go_wp2_with (refine Row.wpList_load_g 33 _ rfl (by first | rfl | go_simp) ⟨w.heap.size, 0, none⟩ rfl c _ A1.out Try.underlying33 rfl IA.out ?_)
  refine (L1.out _ A0.out).mono ?_
  rintro e u1 ⟨rfl, hb⟩
  have B0 : Hid (Below w.heap.size w u1) := Lib.hid (A0.out.trans (hb.mono A0.out.size))
  have B1 := Lib.hid (A1.out.below hb)
  clear hb A0 A1
  by_cases hl : Light8.IsLight T0
  rotate_left
  · rw [decide_eq_false hl]
    clear hl
    go_wp2_with fail
    refine (Wa8.awake_any _).mono ?_
    rintro e u2 ⟨rfl, hb⟩
    have E := Lib.hid (B0.out.trans (hb.mono B0.out.size))
    clear hb
    go_wp2
    go_ret
    exact ⟨rfl, E.out⟩
  rw [decide_eq_true hl]
  have SM := Lib.hid hl.few
  clear hl L1
  go_wp2_with (refine Row.wpList_load_g 33 _ rfl (by first | rfl | go_simp) ⟨w.heap.size, 0, none⟩ rfl c _ B1.out Try.underlying33 rfl IA.out ?_)
  refine (WA.out _ B0.out).mono ?_
  rintro e u2 ⟨rfl, hb⟩
  have A0 : Hid (Below w.heap.size w u2) := Lib.hid (B0.out.trans (hb.mono B0.out.size))
  have A1 := Lib.hid (B1.out.below hb)
  clear hb B0 B1 WA
  go_wp2_with (refine Row.wpList_load_g 33 _ rfl (by first | rfl | go_simp) ⟨w.heap.size, 0, none⟩ rfl c _ A1.out Try.underlying33 rfl IA.out ?_)
  refine (WB.out SM.out _ A0.out).mono ?_
  rintro e u3 ⟨rfl, hb⟩
  have B0 : Hid (Below w.heap.size w u3) := Lib.hid (A0.out.trans (hb.mono A0.out.size))
  have B1 := Lib.hid (A1.out.below hb)
  clear hb A0 A1 WB
  go_upto_region 5 with (refine Row.wpList_store_new rfl 53 _ _ rfl u3 #[I 0, I 0, I 0, I 0] #[I g1, I k1, I i1, I p1] rfl rfl rfl Where.infoS rfl (by simp [Value.oneCell']) ?_)
  have hb2 : Below u3.heap.size u3 (u3.alloc (.cells #[I g1, I k1, I i1, I p1] 53)) := (Below.refl _ _).alloc (Nat.le_refl _) _
  have hg1 := heap_alloc_new u3 (.cells #[I g1, I k1, I i1, I p1] 53)
  generalize u3.alloc (.cells #[I g1, I k1, I i1, I p1] 53) = u4 at hb2 hg1 ⊢
  generalize u3.heap.size = b1 at hg1 ⊢
  have A0 : Hid (Below w.heap.size w u4) := Lib.hid (B0.out.trans (hb2.mono B0.out.size))
  have A1 := Lib.hid (B1.out.below hb2)
  have c0 : u4.cell? ⟨b1, 0, none⟩ = some (I g1) := by rw [cell_of_row _ _ _ _ _ _ hg1]; rfl
  have c1 : u4.cell? ⟨b1, 1, none⟩ = some (I k1) := by rw [cell_of_row _ _ _ _ _ _ hg1]; rfl
  have c2 : u4.cell? ⟨b1, 2, none⟩ = some (I i1) := by rw [cell_of_row _ _ _ _ _ _ hg1]; rfl
  clear hb2 hg1 B0 B1
  go_upto_region 6 with fail
  clear c0 c1 c2
  have hne : Nonempty (Ph.S (Row.Old u4)) := ⟨⟨0, u4, Below.refl _ _⟩⟩
  have P0 : Hid (∀ p : Ph.S (Row.Old u4), Below w.heap.size w p.world) := Lib.hid (fun p => A0.out.trans (p.is.mono A0.out.size))
  refine Pw.region (Row.Old u4) [] (by kernel_rfl) (by kernel_rfl) (Row.Old.drew _) ?_
  iterate 2
    (refine Pw.calm rfl (fun K hK => ?_)
     go_simp
     refine hK _ ?_
     clear hK K)
  refine Pw.load rfl (by rfl) 33 _ rfl ⟨w.heap.size, 0, none⟩ rfl c _ (fun p => A1.out.below p.is) Try.underlying33 rfl IA.out ?_
  (try dsimp only [Act.put]); (try simp only [List.setIfInBounds_toArray, List.set_cons_zero, List.set_cons_succ])
  iterate 2
    (refine Pw.calm rfl (fun K hK => ?_)
     go_simp
     refine hK _ ?_
     clear hK K)
  (refine Pw.calm rfl (fun K hK => ?_)
   go_simp
   refine ⟨_, fun p => Row.Old.call (N1.out _ (P0.out p)), hK _ ?_⟩
   clear hK K)
  refine Pw.load rfl (by rfl) 33 _ rfl ⟨w.heap.size, 0, none⟩ rfl c _ (fun p => A1.out.below p.is) Try.underlying33 rfl IA.out ?_
  (try dsimp only [Act.put]); (try simp only [List.setIfInBounds_toArray, List.set_cons_zero, List.set_cons_succ])
  iterate 2
    (refine Pw.calm rfl (fun K hK => ?_)
     go_simp
     refine hK _ ?_
     clear hK K)
  (refine Pw.calm rfl (fun K hK => ?_)
   go_simp
   refine ⟨_, fun p => Row.Old.call (N2.out SM.out _ (P0.out p)), hK _ ?_⟩
   clear hK K)
  iterate 1
    (refine Pw.calm rfl (fun K hK => ?_)
     go_simp
     refine hK _ ?_
     clear hK K)
  (try simp only [beq_self_eq_true])
  iterate 2
    (refine Pw.calm rfl (fun K hK => ?_)
     go_simp
     refine hK _ ?_
     clear hK K)
  refine Pw.load rfl (by rfl) 33 _ rfl ⟨w.heap.size, 0, none⟩ rfl c _ (fun p => A1.out.below p.is) Try.underlying33 rfl IA.out ?_
  (try dsimp only [Act.put]); (try simp only [List.setIfInBounds_toArray, List.set_cons_zero, List.set_cons_succ])
  iterate 1
    (refine Pw.calm rfl (fun K hK => ?_)
     go_simp
     refine hK _ ?_
     clear hK K)
  (refine Pw.calm rfl (fun K hK => ?_)
   go_simp
   refine ⟨_, fun p => Row.Old.call (M1.out _ (P0.out p)), hK _ ?_⟩
   clear hK K)
  refine Pw.load rfl (by rfl) 33 _ rfl ⟨w.heap.size, 0, none⟩ rfl c _ (fun p => A1.out.below p.is) Try.underlying33 rfl IA.out ?_
  (try dsimp only [Act.put]); (try simp only [List.setIfInBounds_toArray, List.set_cons_zero, List.set_cons_succ])
  iterate 1
    (refine Pw.calm rfl (fun K hK => ?_)
     go_simp
     refine hK _ ?_
     clear hK K)
  (refine Pw.calm rfl (fun K hK => ?_)
   go_simp
   refine ⟨_, fun p => Row.Old.call (M2.out SM.out _ (P0.out p)), hK _ ?_⟩
   clear hK K)
  iterate 1
    (refine Pw.calm rfl (fun K hK => ?_)
     go_simp
     refine hK _ ?_
     clear hK K)
  (try simp only [beq_self_eq_true])
  iterate 2
    (refine Pw.calm rfl (fun K hK => ?_)
     go_simp
     refine hK _ ?_
     clear hK K)
  refine Pw.load rfl (by rfl) 33 _ rfl ⟨w.heap.size, 0, none⟩ rfl c _ (fun p => A1.out.below p.is) Try.underlying33 rfl IA.out ?_
  (try dsimp only [Act.put]); (try simp only [List.setIfInBounds_toArray, List.set_cons_zero, List.set_cons_succ])
  (refine Pw.calm rfl (fun K hK => ?_)
   go_simp
   refine ⟨_, fun p => Row.Old.call (O1.out _ (P0.out p)), hK _ ?_⟩
   clear hK K)
  refine Pw.load rfl (by rfl) 33 _ rfl ⟨w.heap.size, 0, none⟩ rfl c _ (fun p => A1.out.below p.is) Try.underlying33 rfl IA.out ?_
  (try dsimp only [Act.put]); (try simp only [List.setIfInBounds_toArray, List.set_cons_zero, List.set_cons_succ])
  (refine Pw.calm rfl (fun K hK => ?_)
   go_simp
   refine ⟨_, fun p => Row.Old.call (O2.out _ (P0.out p)), hK _ ?_⟩
   clear hK K)
  iterate 1
    (refine Pw.calm rfl (fun K hK => ?_)
     go_simp
     refine hK _ ?_
     clear hK K)
  (try simp only [beq_self_eq_true])
  iterate 2
    (refine Pw.calm rfl (fun K hK => ?_)
     go_simp
     refine hK _ ?_
     clear hK K)
  (refine Pw.calm rfl (fun K hK => ?_)
   go_simp
   refine ⟨_, fun p => Row.Old.call (Wa8.awake_any _), hK _ ?_⟩
   clear hK K)
  iterate 2
    (refine Pw.calm rfl (fun K hK => ?_)
     go_simp
     refine hK _ ?_
     clear hK K)
  refine Pw.nil ?_
  intro u9 hb9
  have E := Lib.hid (A0.out.trans (hb9.mono A0.out.size))
  clear hb9 hne P0
  go_wp2
  go_ret
  exact ⟨rfl, E.out⟩

/-! ### the row's step -/
set_option maxRecDepth 100000 in
theorem lifted (os : Os) (started : os.Started) (H : Type) (enc : TypeId × Value → H) :
    ReturnsInHanded {} Try.checked os 5 .any (Rows.planAllSpec.pre6 enc Try.prog Try.f5 Rows.planAllRow.domain false) (Rows.planAllSpec.post enc Try.prog Try.f5 false true false false) := by
  refine returnsInHanded_of_change (C := Try.checked) own started (by kernel_rfl) Try.func5
    (ChangeSpec.witness6 (enc := enc) (C := Try.checked) false ⟨#[], #[.agg (Clone.zTab.cells Clone.zHd).toArray, .int .i64 0, .int .i64 0, .int .i64 0], []⟩ 8 (by kernel_rfl) (by kernel_rfl) (by kernel_rfl) (by kernel_rfl)) ?_
  intro W base args ds gs before hval0 hW hcnd _
  have hval : ∀ (j : Nat) t v, Try.f5.params[j]? = some t → args[j]? = some v → Value.okWide Try.prog W .any base t v := hval0
  have hW' := hW
  obtain ⟨p, q, hA0, hV, rfl, hfz, hnd⟩ := hW
  have hA : DataW.TrodAll enc Try.prog W 0 (fun _ => true) true Try.f5.params.toList args.toList ds p := hA0
  rw [Try.params5] at hA hval
  obtain ⟨v0, vs0, d0, ds0, p0, q0, hargs, rfl, rfl, h0, r0⟩ := trodAll_cons hA
  obtain ⟨v1, vs1, d1, ds1, p1, q1, rfl, rfl, rfl, h1, r1⟩ := trodAll_cons r0
  obtain ⟨v2, vs2, d2, ds2, p2, q2, rfl, rfl, rfl, h2, r2⟩ := trodAll_cons r1
  obtain ⟨v3, vs3, d3, ds3, p3, q3, rfl, rfl, rfl, h3, r3⟩ := trodAll_cons r2
  obtain ⟨rfl, rfl, rfl⟩ := trodAll_nil r3
  obtain rfl : args = #[v0, v1, v2, v3] := by cases args; simp_all
  obtain ⟨rfl, rfl⟩ := trodVars_none hV
  obtain ⟨c0, rfl, _⟩ := okWide_struct Try.underlying33 (hval 0 33 v0 rfl rfl)
  have k0 := h0
  have lt0 : ∀ x ∈ p0, x.block < W.heap.size := by obtain ⟨m, hm⟩ := k0; exact DataW.trod_lt m _ _ _ hm
  obtain ⟨H0, T0, e0, w0⟩ : ∃ (h : Tab.Hd) (T : Tab.Tab), c0 = (T.cells h).toArray ∧ Tab.IsTab W h T := by
    obtain ⟨fuel, hf⟩ := h0
    obtain ⟨h, T, e, k⟩ := TabArg.open_tab hf
    exact ⟨h, T, by rw [← e]; simp [Value.cells], k⟩
  subst e0
  obtain ⟨a1, rfl, rfl, rfl, w1⟩ := open_int Try.underlying3 (hval 1 3 v1 rfl rfl) h1
  obtain ⟨a2, rfl, rfl, rfl, w2⟩ := open_int Try.underlying3 (hval 2 3 v2 rfl rfl) h2
  obtain ⟨a3, rfl, rfl, rfl, w3⟩ := open_int Try.underlying3 (hval 3 3 v3 rfl rfl) h3
  clear hA0 hval0
  refine (walk T0 H0 a1 a2 a3 W w0 w1 w2 w3).mono fun e W' ⟨he, bel⟩ => ?_
  subst he
  exact ⟨_, rfl, _, _, _, [], _, [], hW', trodAll_mk1 (shut_bool Try.underlying4 _), (trodAll_cons_mk (Below.trod laidOut (by kernel_rfl) (of_decide_eq_true (by kernel_rfl)) k0 bel lt0) (trodAll_cons_mk (shut_int Try.underlying3 w1) (trodAll_cons_mk (shut_int Try.underlying3 w2) (trodAll_cons_mk (shut_int Try.underlying3 w3) trodAll_mk0)))), rfl, bel.frame _, fun h => by cases h⟩

theorem over : Rows.planAllRow.holds Try.pinned (OpenSpec.ofChange Rows.planAllSpec) :=
  OpenClaim.holds_of_wide 5 Try.f5 rfl rfl rfl rfl rfl rfl rfl ⟨rfl, rfl, rfl, rfl, rfl⟩ rfl rfl rfl rfl rfl (by kernel_rfl) Try.func5 (by kernel_rfl)
    (of_decide_eq_true (by kernel_rfl)) (by unfold Func.isWrapper; first | (rw [if_pos (by decide +kernel)]; kernel_rfl) | (rw [if_neg (by decide +kernel)]; exact ⟨rfl, rfl⟩))
    (fun os started H enc _ => lifted os started H enc)

/-- the statement -/
theorem proved : Rows.PlanAllSaid :=
  over
#print axioms proved
end Go.Proofs.Ytfnpcfibgabmfaa.planAll
