/- SetTurn returns true at any three integers: with a phase it is there and without it it is not, nothing else is another way, and each undoes the other. No condition. -/
import Derived.Test.YtkmebfnhklbhiaaRows
import Derived.Test.YtkmebfnhklbhiaaSetR
import Derived.Test.YtkmebfnhklbhiaaSetM2
import Derived.WalkKit
import Derived.WalkLawsBesides
import Derived.ProofKit
import Derived.OpenShut
import Derived.ShutString
import Derived.ChangeOld
import Derived.Below
namespace Go.Proofs.Ytkmebfnhklbhiaa.setTurn
open Go.ChangeShapes Go.WideShapes Go.ChangeAt Go.RowKit
set_option linter.unusedVariables false
set_option linter.unusedSimpArgs false

theorem own : ownKnob Try.prog.godebug = none := by kernel_rfl
theorem laidOut : laidOutB Try.prog = true := by kernel_rfl

theorem chain {a b c : World} (h : Below a.heap.size a b) (k : Below b.heap.size b c) : Below a.heap.size a c := h.trans (k.mono h.size)

/-! ### the walk -/
set_option maxHeartbeats 1000000 in
theorem walk (a0 : Int) (a1 : Int) (a2 : Int) (w : World) (w0 : (Lit.int .i64 a0).wf = true) (w1 : (Lit.int .i64 a1).wf = true) (w2 : (Lit.int .i64 a2).wf = true) :
    Calls Try.prog 6 #[.int .i64 a0, .int .i64 a1, .int .i64 a2] w fun e w' => e = .returned (.bool true) ∧ Below w.heap.size w w' := by
  go_enter Try.func6, Try.ntmps6
  go_wp2_with fail
  refine (SetR.place_any _ _ _ (by omega) (by omega)).mono ?_
  rintro e w' ⟨rfl, rfl⟩
  have hk1 : 0 ≤ a1 % 8 := by omega
  have hk2 : a1 % 8 < 8 := by omega
  generalize a1 % 8 = k at hk1 hk2
  have f1 := Lib.hid (SetM.with_in a0 k hk1 hk2)
  have f2 := Lib.hid (SetM.without_in a0 k)
  have f3 := Lib.hid (SetM.count_with a0 k hk1 hk2)
  have f4 := Lib.hid (SetM.with_without a0 k)
  have f5 := Lib.hid (SetM.without_with a0 k)
  have f6 := SetM.list_len (SetM.withoutN a0 k : Nat)
  clear hk1 hk2
  go_wp2_with fail
  refine (Set.with_any _ _ _).mono ?_
  rintro e w' ⟨rfl, rfl⟩
  go_wp2_with fail
  refine (Set.without_any _ _ _).mono ?_
  rintro e w' ⟨rfl, rfl⟩
  by_cases hq : a2 = k
  · subst hq
    go_wp2_with fail
    refine (Set.has_any _ _ _).mono ?_
    rintro e w' ⟨rfl, rfl⟩
    rw [f1.out]
    go_wp2_with fail
    refine (Set.has_any _ _ _).mono ?_
    rintro e w' ⟨rfl, rfl⟩
    rw [f2.out]
    go_wp2_with fail
    refine (SetE.count_in _ _).mono ?_
    rintro e w1 ⟨rfl, b1⟩
    rw [f3.out]
    go_wp2_with fail
    refine (SetE.count_in _ _).mono ?_
    rintro e w2 ⟨rfl, b2⟩
    go_wp2_with fail
    refine (Set.with_any _ _ _).mono ?_
    rintro e w' ⟨rfl, rfl⟩
    rw [f4.out]
    go_wp2_with fail
    refine (Set.without_any _ _ _).mono ?_
    rintro e w' ⟨rfl, rfl⟩
    rw [f5.out]
    go_wp2_with fail
    refine (SetR.awake_any _).mono ?_
    rintro e w3 ⟨rfl, b3⟩
    go_wp2
    go_ret
    exact ⟨rfl, chain b1 (chain b2 b3)⟩
  · have g1 := Lib.hid (SetM.with_other a0 k a2 hq)
    have g2 := Lib.hid (SetM.without_other a0 k a2 hq)
    go_wp2_with fail
    refine (Set.has_any _ _ _).mono ?_
    rintro e w' ⟨rfl, rfl⟩
    rw [g1.out]
    go_wp2_with fail
    refine (Set.has_any _ _ _).mono ?_
    rintro e w' ⟨rfl, rfl⟩
    go_wp2_with fail
    refine (Set.has_any _ _ _).mono ?_
    rintro e w' ⟨rfl, rfl⟩
    rw [g2.out]
    go_wp2_with fail
    refine (Set.has_any _ _ _).mono ?_
    rintro e w' ⟨rfl, rfl⟩
    go_wp2_with fail
    refine (Set.has_any _ _ _).mono ?_
    rintro e w' ⟨rfl, rfl⟩
    rw [f1.out]
    go_wp2_with fail
    refine (Set.has_any _ _ _).mono ?_
    rintro e w' ⟨rfl, rfl⟩
    rw [f2.out]
    go_wp2_with fail
    refine (SetE.count_in _ _).mono ?_
    rintro e w1 ⟨rfl, b1⟩
    rw [f3.out]
    go_wp2_with fail
    refine (SetE.count_in _ _).mono ?_
    rintro e w2 ⟨rfl, b2⟩
    go_wp2_with fail
    refine (Set.with_any _ _ _).mono ?_
    rintro e w' ⟨rfl, rfl⟩
    rw [f4.out]
    go_wp2_with fail
    refine (Set.without_any _ _ _).mono ?_
    rintro e w' ⟨rfl, rfl⟩
    rw [f5.out]
    go_wp2_with fail
    refine (SetR.awake_any _).mono ?_
    rintro e w3 ⟨rfl, b3⟩
    go_wp2
    go_ret
    exact ⟨rfl, chain b1 (chain b2 b3)⟩

/-! ### the row's step -/
set_option maxRecDepth 100000 in
theorem lifted (os : Os) (started : os.Started) (H : Type) (enc : TypeId × Value → H) :
    ReturnsInHanded {} Try.checked os 6 .any (Rows.setTurnSpec.pre6 enc Try.prog Try.f6 Rows.setTurnRow.domain false) (Rows.setTurnSpec.post enc Try.prog Try.f6 false true false false) := by
  refine returnsInHanded_of_change (C := Try.checked) own started (by kernel_rfl) Try.func6
    (ChangeSpec.witness6 (enc := enc) (C := Try.checked) false ⟨#[], #[.int .i64 0, .int .i64 0, .int .i64 0], []⟩ 8 (by kernel_rfl) (by kernel_rfl) (by kernel_rfl) (by kernel_rfl)) ?_
  intro W base args ds gs before hval0 hW hcnd _
  have hval : ∀ (j : Nat) t v, Try.f6.params[j]? = some t → args[j]? = some v → Value.okWide Try.prog W .any base t v := hval0
  have hW' := hW
  obtain ⟨p, q, hA0, hV, rfl, hfz, hnd⟩ := hW
  have hA : DataW.TrodAll enc Try.prog W 0 (fun _ => true) true Try.f6.params.toList args.toList ds p := hA0
  rw [Try.params6] at hA hval
  obtain ⟨v0, vs0, d0, ds0, p0, q0, hargs, rfl, rfl, h0, r0⟩ := trodAll_cons hA
  obtain ⟨v1, vs1, d1, ds1, p1, q1, rfl, rfl, rfl, h1, r1⟩ := trodAll_cons r0
  obtain ⟨v2, vs2, d2, ds2, p2, q2, rfl, rfl, rfl, h2, r2⟩ := trodAll_cons r1
  obtain ⟨rfl, rfl, rfl⟩ := trodAll_nil r2
  obtain rfl : args = #[v0, v1, v2] := by cases args; simp_all
  obtain ⟨rfl, rfl⟩ := trodVars_none hV
  obtain ⟨a0, rfl, rfl, rfl, w0⟩ := open_int Try.underlying3 (hval 0 3 v0 rfl rfl) h0
  obtain ⟨a1, rfl, rfl, rfl, w1⟩ := open_int Try.underlying3 (hval 1 3 v1 rfl rfl) h1
  obtain ⟨a2, rfl, rfl, rfl, w2⟩ := open_int Try.underlying3 (hval 2 3 v2 rfl rfl) h2
  clear hA0 hval0
  simp only [List.append_nil] at hW'
  refine (walk a0 a1 a2 W w0 w1 w2).mono fun e W' ⟨he, bel⟩ => ?_
  subst he
  exact ⟨_, rfl, _, _, _, [], _, [], hW', trodAll_mk1 (shut_bool Try.underlying4 _), (trodAll_cons_mk (shut_int Try.underlying3 w0) (trodAll_cons_mk (shut_int Try.underlying3 w1) (trodAll_cons_mk (shut_int Try.underlying3 w2) trodAll_mk0))), rfl, bel.frame _, fun h => by cases h⟩

theorem over : Rows.setTurnRow.holds Try.pinned (OpenSpec.ofChange Rows.setTurnSpec) :=
  OpenClaim.holds_of_wide 6 Try.f6 rfl rfl rfl rfl rfl rfl rfl ⟨rfl, rfl, rfl, rfl, rfl⟩ rfl rfl rfl rfl rfl (by kernel_rfl) Try.func6 (by kernel_rfl)
    (of_decide_eq_true (by kernel_rfl)) (by unfold Func.isWrapper; first | (rw [if_pos (by decide +kernel)]; kernel_rfl) | (rw [if_neg (by decide +kernel)]; exact ⟨rfl, rfl⟩))
    (fun os started H enc _ => lifted os started H enc)

/-- the statement -/
theorem proved : Rows.SetTurnSaid :=
  over
#print axioms proved
end Go.Proofs.Ytkmebfnhklbhiaa.setTurn
