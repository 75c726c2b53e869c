/- CheckAll returns true at any table: package check's Check returns what the document's own returns. No condition. -/
import Derived.Test.YtfekngnfjemgeaaRows
import Derived.Test.YtfekngnfjemgeaaPart12
import Derived.Test.YtfekngnfjemgeaaPart13
import Derived.Test.YtfekngnfjemgeaaPart14
import Derived.Test.YtfekngnfjemgeaaPart05
import Derived.Deep.Cut
import Derived.WalkKit
import Derived.WalkLawsBesides
import Derived.ProofKit
import Derived.OpenShut
import Derived.ShutString
import Derived.ChangeOld
import Derived.Below
set_option linter.unusedVariables false
set_option linter.unusedSimpArgs false
set_option linter.unusedSectionVars false
namespace Go.Proofs.Ytfekngnfjemgeaa.checkAll
open Go.ChangeShapes Go.WideShapes Go.ChangeAt Go.RowKit
open Tab PlaceM PlanM OnS ChkM
open May (infoT)
set_option linter.unusedVariables false
set_option linter.unusedSimpArgs false

theorem own : ownKnob Try.prog.godebug = none := by kernel_rfl
theorem laidOut : laidOutB Try.prog = true := by kernel_rfl

/-- WHAT THE WALK IS TOLD OF A SLICE OF INTEGERS THAT CAME IN: it is nil; or it leads to a row of 'cap' cells, the numbers 'zs' (the first 'len' are its elements, the rest its spare room), each fitting its kind. -/
def IsRow (k : IntKind) (w : World) (a : Option Addr) (len cap : Nat) (zs : List Int) : Prop :=
  (a = none ∧ len = 0 ∧ cap = 0 ∧ zs = []) ∨
  ∃ x, a = some x ∧ len ≤ cap ∧ cap ≤ maxLen ∧ zs.length = cap ∧ (∀ i, i < zs.length → w.cell? (x.add i) = some (.int k (zs.getD i 0))) ∧ ∀ n ∈ zs, (Lit.int k n).wf = true

theorem few {T : Tab} (h : Light9.IsLight T) : PlaceM.Few T := by
  obtain ⟨h1, _, _, _, h5⟩ := h
  exact ⟨by omega, fun g hg => by have := h5 g hg; omega⟩

/-! ### the walk -/
set_option maxRecDepth 10000 in
set_option maxHeartbeats 8000000 in
theorem walk (T0 : Tab.Tab) (H0 : Tab.Hd) (w : World) (w0 : Tab.IsTab w H0 T0) :
    Calls Try.prog 4 #[.agg (T0.cells H0).toArray] w fun e w' => e = .returned (.bool true) ∧ Below w.heap.size w w' := by
  have hz1 := (cells_ok w0).size
  have IA : Hid ((Try.prog.info? 32).map (·.size) = some (T0.cells H0).length) := Lib.hid (by rw [List.size_toArray] at hz1; rw [hz1]; exact infoT)
  have L1 : Hid (∀ W, Below w.heap.size w W → Calls Try.prog 12 #[.agg (T0.cells H0).toArray] W fun e w' => e = .returned (.bool (decide (Light9.IsLight T0))) ∧ Below W.heap.size W w') := Lib.hid (fun W hb => Light9.light_any T0 H0 W (w0.below hb))
  have CK0 : Hid (∀ W, Below w.heap.size w W → Calls Try.prog 14 #[.agg (T0.cells H0).toArray] W fun e w' => e = .returned (.agg (fcells (chkC T0))) ∧ Below W.heap.size W w') := Lib.hid (fun W hb => ChkK.check_any T0 H0 W (w0.below hb))
  have RK0 : Hid (PlaceM.Few T0 → ∀ W, Below w.heap.size w W → Calls Try.prog 15 #[.agg (T0.cells H0).toArray] W fun e w' => e = .returned (.agg (fcells (chkC T0))) ∧ Below W.heap.size W w') := Lib.hid (fun sm W hb => by rw [ChkZ.chk_eq w0.ph w0.cf]; exact RkK.rcheck_any T0 H0 W (w0.below hb) sm)
  obtain ⟨f1, f2, FE, CK, RK⟩ : ∃ (f1 f2 : Int), Hid (Same.Eqs 49 [I f1, I f2] [I f1, I f2] true) ∧ Hid (∀ W, Below w.heap.size w W → Calls Try.prog 14 #[.agg (T0.cells H0).toArray] W fun e w' => e = .returned (.agg #[I f1, I f2]) ∧ Below W.heap.size W w')
      ∧ Hid (PlaceM.Few T0 → ∀ W, Below w.heap.size w W → Calls Try.prog 15 #[.agg (T0.cells H0).toArray] W fun e w' => e = .returned (.agg #[I f1, I f2]) ∧ Below W.heap.size W w') :=
    ⟨(chkC T0).1, (chkC T0).2, Lib.hid (by have := ChkK.fault_eqs (chkC T0).1 (chkC T0).2 (chkC T0).1 (chkC T0).2; rwa [decide_eq_true (by simp)] at this), CK0, RK0⟩
  clear CK0 RK0
  have A0 : Hid (Below w.heap.size w (w.alloc (.cells (T0.cells H0).toArray 32))) := Lib.hid ((Below.refl _ _).alloc (Nat.le_refl _) _)
  have A1 : Hid (Lies (w.alloc (.cells (T0.cells H0).toArray 32)) ⟨w.heap.size, 0, none⟩ (T0.cells H0)) := Lib.hid (Row.lies_new w _ _)
  clear w0
  generalize T0.cells H0 = c at *
  go_enter Try.func4, Try.ntmps4
  go_upto_region 1 with fail
  generalize w.alloc (.cells c.toArray 32) = u at A0 A1 ⊢
  clear hz1
  go_wp2_with (refine Row.wpList_load_g 32 _ rfl (by first | rfl | go_simp) ⟨w.heap.size, 0, none⟩ rfl c _ A1.out Try.underlying32 rfl IA.out ?_)
  refine (L1.out _ A0.out).mono ?_
  rintro e u1 ⟨rfl, hb⟩
  have B0 : Hid (Below w.heap.size w u1) := Lib.hid (A0.out.trans (hb.mono A0.out.size))
  have B1 := Lib.hid (A1.out.below hb)
  clear hb A0 A1
  by_cases hl : Light9.IsLight T0
  rotate_left
  · rw [decide_eq_false hl]
    clear hl
    go_wp2_with fail
    refine (Wa9.awake_any _).mono ?_
    rintro e u2 ⟨rfl, hb⟩
    have E := Lib.hid (B0.out.trans (hb.mono B0.out.size))
    clear hb
    go_wp2
    go_ret
    exact ⟨rfl, E.out⟩
  rw [decide_eq_true hl]
  have SM := Lib.hid (few hl)
  clear hl L1
  go_upto_region 3 with fail
  have hne : Nonempty (Ph.S (Row.Old u1)) := ⟨⟨0, u1, Below.refl _ _⟩⟩
  have P0 : Hid (∀ p : Ph.S (Row.Old u1), Below w.heap.size w p.world) := Lib.hid (fun p => B0.out.trans (p.is.mono B0.out.size))
  refine Pw.region (Row.Old u1) [] (by kernel_rfl) (by kernel_rfl) (Row.Old.drew _) ?_
  refine Pw.load rfl (by rfl) 32 _ rfl ⟨w.heap.size, 0, none⟩ rfl c _ (fun p => B1.out.below p.is) Try.underlying32 rfl IA.out ?_
  (try dsimp only [Act.put]); (try simp only [List.setIfInBounds_toArray, List.set_cons_zero, List.set_cons_succ])
  (refine Pw.calm rfl (fun K hK => ?_)
   go_simp
   refine ⟨_, fun p => Row.Old.call (CK.out _ (P0.out p)), hK _ ?_⟩
   clear hK K)
  refine Pw.load rfl (by rfl) 32 _ rfl ⟨w.heap.size, 0, none⟩ rfl c _ (fun p => B1.out.below p.is) Try.underlying32 rfl IA.out ?_
  (try dsimp only [Act.put]); (try simp only [List.setIfInBounds_toArray, List.set_cons_zero, List.set_cons_succ])
  (refine Pw.calm rfl (fun K hK => ?_)
   go_simp
   refine ⟨_, fun p => Row.Old.call (RK.out SM.out _ (P0.out p)), hK _ ?_⟩
   clear hK K)
  refine Pw.eql 49 _ _ _ rfl rfl (by rfl) #[I f1, I f2] #[I f1, I f2] rfl rfl ChkK.guardF true FE.out ?_
  (try dsimp only [Act.put]); (try simp only [List.setIfInBounds_toArray, List.set_cons_zero, List.set_cons_succ])
  iterate 1
    (refine Pw.calm rfl (fun K hK => ?_)
     go_simp
     refine hK _ ?_
     clear hK K)
  (refine Pw.calm rfl (fun K hK => ?_)
   go_simp
   refine ⟨_, fun p => Row.Old.call (Wa9.awake_any _), hK _ ?_⟩
   clear hK K)
  iterate 2
    (refine Pw.calm rfl (fun K hK => ?_)
     go_simp
     refine hK _ ?_
     clear hK K)
  refine Pw.nil ?_
  intro u9 hb9
  have E := Lib.hid (B0.out.trans (hb9.mono B0.out.size))
  clear hb9 hne P0
  go_wp2
  go_ret
  exact ⟨rfl, E.out⟩

/-! ### the row's step -/
set_option maxRecDepth 100000 in
theorem lifted (os : Os) (started : os.Started) (H : Type) (enc : TypeId × Value → H) :
    ReturnsInHanded {} Try.checked os 4 .any (Rows.checkAllSpec.pre6 enc Try.prog Try.f4 Rows.checkAllRow.domain false) (Rows.checkAllSpec.post enc Try.prog Try.f4 false true false false) := by
  refine returnsInHanded_of_change (C := Try.checked) own started (by kernel_rfl) Try.func4
    (ChangeSpec.witness6 (enc := enc) (C := Try.checked) false ⟨#[], #[.agg (Clone.zTab.cells Clone.zHd).toArray], []⟩ 8 (by kernel_rfl) (by kernel_rfl) (by kernel_rfl) (by kernel_rfl)) ?_
  intro W base args ds gs before hval0 hW hcnd _
  have hval : ∀ (j : Nat) t v, Try.f4.params[j]? = some t → args[j]? = some v → Value.okWide Try.prog W .any base t v := hval0
  have hW' := hW
  obtain ⟨p, q, hA0, hV, rfl, hfz, hnd⟩ := hW
  have hA : DataW.TrodAll enc Try.prog W 0 (fun _ => true) true Try.f4.params.toList args.toList ds p := hA0
  rw [Try.params4] at hA hval
  obtain ⟨v0, vs0, d0, ds0, p0, q0, hargs, rfl, rfl, h0, r0⟩ := trodAll_cons hA
  obtain ⟨rfl, rfl, rfl⟩ := trodAll_nil r0
  obtain rfl : args = #[v0] := by cases args; simp_all
  obtain ⟨rfl, rfl⟩ := trodVars_none hV
  obtain ⟨c0, rfl, _⟩ := okWide_struct Try.underlying32 (hval 0 32 v0 rfl rfl)
  have k0 := h0
  have lt0 : ∀ x ∈ p0, x.block < W.heap.size := by obtain ⟨m, hm⟩ := k0; exact DataW.trod_lt m _ _ _ hm
  obtain ⟨H0, T0, e0, w0⟩ : ∃ (h : Tab.Hd) (T : Tab.Tab), c0 = (T.cells h).toArray ∧ Tab.IsTab W h T := by
    obtain ⟨fuel, hf⟩ := h0
    obtain ⟨h, T, e, k⟩ := TabArg.open_tab hf
    exact ⟨h, T, by rw [← e]; simp [Value.cells], k⟩
  subst e0
  clear hA0 hval0
  refine (walk T0 H0 W w0).mono fun e W' ⟨he, bel⟩ => ?_
  subst he
  exact ⟨_, rfl, _, _, _, [], _, [], hW', trodAll_mk1 (shut_bool Try.underlying4 _), (trodAll_cons_mk (Below.trod laidOut (by kernel_rfl) (of_decide_eq_true (by kernel_rfl)) k0 bel lt0) trodAll_mk0), rfl, bel.frame _, fun h => by cases h⟩

theorem over : Rows.checkAllRow.holds Try.pinned (OpenSpec.ofChange Rows.checkAllSpec) :=
  OpenClaim.holds_of_wide 4 Try.f4 rfl rfl rfl rfl rfl rfl rfl ⟨rfl, rfl, rfl, rfl, rfl⟩ rfl rfl rfl rfl rfl (by kernel_rfl) Try.func4 (by kernel_rfl)
    (of_decide_eq_true (by kernel_rfl)) (by unfold Func.isWrapper; first | (rw [if_pos (by decide +kernel)]; kernel_rfl) | (rw [if_neg (by decide +kernel)]; exact ⟨rfl, rfl⟩))
    (fun os started H enc _ => lifted os started H enc)

/-- the statement -/
theorem proved : Rows.CheckAllSaid :=
  over
#print axioms proved
end Go.Proofs.Ytfekngnfjemgeaa.checkAll
