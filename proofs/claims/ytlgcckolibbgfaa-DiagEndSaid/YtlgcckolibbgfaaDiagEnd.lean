/- DiagEnd returns true at any state, any bound and either input: a count that has come to MaxTime and one stays there, and every bound that may be is reached. No condition. -/
import Derived.Test.YtlgcckolibbgfaaRows
import Derived.Test.YtlgcckolibbgfaaDig
import Derived.LoopTactic
import Derived.WalkKit
import Derived.WalkLawsBesides
import Derived.ProofKit
import Derived.OpenShut
import Derived.ShutString
import Derived.ChangeOld
import Derived.Below
namespace Go.Proofs.Ytlgcckolibbgfaa.diagEnd
open Go.ChangeShapes Go.WideShapes Go.ChangeAt Go.RowKit
open Tab Dig
set_option linter.unusedVariables false
set_option linter.unusedSimpArgs false

theorem own : ownKnob Try.prog.godebug = none := by kernel_rfl
theorem laidOut : laidOutB Try.prog = true := by kernel_rfl

/-- WHAT THE WALK IS TOLD OF A SLICE OF INTEGERS THAT CAME IN: it is nil; or it leads to a row of 'cap' cells, the numbers 'zs' (the first 'len' are its elements, the rest its spare room), each fitting its kind. -/
def IsRow (k : IntKind) (w : World) (a : Option Addr) (len cap : Nat) (zs : List Int) : Prop :=
  (a = none ∧ len = 0 ∧ cap = 0 ∧ zs = []) ∨
  ∃ x, a = some x ∧ len ≤ cap ∧ cap ≤ maxLen ∧ zs.length = cap ∧ (∀ i, i < zs.length → w.cell? (x.add i) = some (.int k (zs.getD i 0))) ∧ ∀ n ∈ zs, (Lit.int k n).wf = true

theorem and1 (v : Int) : 0 ≤ bits .and .i64 v 1 ∧ bits .and .i64 v 1 < 2 := by
  have e : bits .and .i64 v 1 = IntKind.i64.wrap (((BitVec.ofInt 64 v &&& BitVec.ofInt 64 1).toNat : Nat) : Int) := rfl
  have hl : (BitVec.ofInt 64 v &&& BitVec.ofInt 64 1).toNat ≤ 1 := by
    rw [BitVec.toNat_and]; exact Nat.and_le_right
  rw [e, IntKind.wrap_i64]
  omega
theorem top {n : Int} (h : 9999 ≤ n) : Cnt.more n = 10000 := by unfold Cnt.more Cnt.ct; split <;> (try split) <;> omega

/-! ### the walk -/
set_option maxHeartbeats 4000000 in
theorem walk (x0 : Dig.Wd) (a1 : Int) (a2 : Bool) (w : World) (w1 : (Lit.int .i64 a1).wf = true) :
    Calls Try.prog 6 #[.agg x0.cells.toArray, .int .i64 a1, .bool a2] w fun e w' => e = .returned (.bool true) ∧ Below w.heap.size w w' := by
  obtain ⟨a, b⟩ := x0
  obtain ⟨m, hm⟩ : ∃ d, a1 % 9999 = d := ⟨_, rfl⟩
  have m0 : 0 ≤ m := by omega
  have m1 : m < 9999 := by omega
  have HM := Lib.hid hm
  clear hm
  obtain ⟨ca, hca⟩ : ∃ d, bits .and .i64 a 1 = d := ⟨_, rfl⟩
  obtain ⟨cb, hcb⟩ : ∃ d, bits .and .i64 b 1 = d := ⟨_, rfl⟩
  obtain ⟨ca0, ca1⟩ := hca ▸ and1 a
  obtain ⟨cb0, cb1⟩ := hcb ▸ and1 b
  simp only [Wd.cells]
  have h0 := (Blk.Bks.nil w).alloc #[I a, I b] 23
  cases a2
  · have HS := Lib.hid (show wat ⟨9999 + ca, 9999 + cb⟩ false = ⟨0, 10000⟩ from by unfold wat; simp [top (show 9999 ≤ 9999 + ca by omega), top (show 9999 ≤ 9999 + cb by omega)])
    have HT := Lib.hid (show wat ⟨0, 10000⟩ false = ⟨0, 10000⟩ from by decide)
    have HU := Lib.hid (show stk (1 + m) (1 + m) ⟨0, 10000⟩ = true from by unfold stk; simp only [Bool.or_eq_true, decide_eq_true_eq]; omega)
    go_enter Try.func6, Try.ntmps6
    go_upto_region 1 with fail
    generalize World.alloc w _ = u at h0 ⊢
    generalize w.heap.size = gs at h0 ⊢
    have H0 := Lib.hid h0
    clear h0
    go_upto_region 2 with (go_at_call 12; with_reducible refine (Cnt.place_any a1 9999 _ (by decide) (by decide)).mono ?_; rintro e w' ⟨rfl, rfl⟩; rw [HM.out])
    have k0_0 : u.cell? ⟨gs, 0, none⟩ = some (I a) := H0.out.cell 0 0 rfl rfl
    have k0_1 : u.cell? ⟨gs, 1, none⟩ = some (I b) := H0.out.cell 0 1 rfl rfl
    go_wp2_with fail
    refine (step_is HS.out _).mono ?_
    rintro e u1 ⟨rfl, b1⟩
    clear k0_0 k0_1
    go_upto_region 3 with fail
    have hn := (H0.out.step b1).alloc #[I 0, I 10000] 23
    generalize World.alloc u1 _ = v1 at hn ⊢
    generalize u1.heap.size = gx at hn ⊢
    have H1 := Lib.hid hn
    clear hn H0 b1
    have k0_0 : v1.cell? ⟨gx, 0, none⟩ = some (I 0) := H1.out.cell 0 0 rfl rfl
    have k0_1 : v1.cell? ⟨gx, 1, none⟩ = some (I 10000) := H1.out.cell 0 1 rfl rfl
    go_wp2_with fail
    refine (step_is HT.out _).mono ?_
    rintro e u2 ⟨rfl, b2⟩
    clear k0_0 k0_1
    go_upto_region 4 with fail
    have hn := (H1.out.step b2).alloc #[I 0, I 10000] 23
    generalize World.alloc u2 _ = v2 at hn ⊢
    generalize u2.heap.size = gy at hn ⊢
    have H2 := Lib.hid hn
    clear hn H1 b2
    have k0_0 : v2.cell? ⟨gy, 0, none⟩ = some (I 0) := H2.out.cell 0 0 rfl rfl
    have k0_1 : v2.cell? ⟨gy, 1, none⟩ = some (I 10000) := H2.out.cell 0 1 rfl rfl
    have k1_0 : v2.cell? ⟨gx, 0, none⟩ = some (I 0) := H2.out.cell 1 0 rfl rfl
    have k1_1 : v2.cell? ⟨gx, 1, none⟩ = some (I 10000) := H2.out.cell 1 1 rfl rfl
    go_wp2_with fail
    refine (stuck_is HU.out _).mono ?_
    rintro e u3 ⟨rfl, b3⟩
    have hn := H2.out.step b3
    have H3 := Lib.hid hn
    clear hn H2 b3 k0_0 k0_1 k1_0 k1_1
    have k0_0 : u3.cell? ⟨gy, 0, none⟩ = some (I 0) := H3.out.cell 0 0 rfl rfl
    have k0_1 : u3.cell? ⟨gy, 1, none⟩ = some (I 10000) := H3.out.cell 0 1 rfl rfl
    have k1_0 : u3.cell? ⟨gx, 0, none⟩ = some (I 0) := H3.out.cell 1 0 rfl rfl
    have k1_1 : u3.cell? ⟨gx, 1, none⟩ = some (I 10000) := H3.out.cell 1 1 rfl rfl
    go_wp2_with fail
    refine (Dig.awake_any _).mono ?_
    rintro e u9 ⟨rfl, b9⟩
    go_wp2
    go_ret
    exact ⟨rfl, (H3.out.step b9).bel⟩
  · have HS := Lib.hid (show wat ⟨9999 + ca, 9999 + cb⟩ true = ⟨10000, 0⟩ from by unfold wat; simp [top (show 9999 ≤ 9999 + ca by omega), top (show 9999 ≤ 9999 + cb by omega)])
    have HT := Lib.hid (show wat ⟨10000, 0⟩ true = ⟨10000, 0⟩ from by decide)
    have HU := Lib.hid (show stk (1 + m) (1 + m) ⟨10000, 0⟩ = true from by unfold stk; simp only [Bool.or_eq_true, decide_eq_true_eq]; omega)
    go_enter Try.func6, Try.ntmps6
    go_upto_region 1 with fail
    generalize World.alloc w _ = u at h0 ⊢
    generalize w.heap.size = gs at h0 ⊢
    have H0 := Lib.hid h0
    clear h0
    go_upto_region 2 with (go_at_call 12; with_reducible refine (Cnt.place_any a1 9999 _ (by decide) (by decide)).mono ?_; rintro e w' ⟨rfl, rfl⟩; rw [HM.out])
    have k0_0 : u.cell? ⟨gs, 0, none⟩ = some (I a) := H0.out.cell 0 0 rfl rfl
    have k0_1 : u.cell? ⟨gs, 1, none⟩ = some (I b) := H0.out.cell 0 1 rfl rfl
    go_wp2_with fail
    refine (step_is HS.out _).mono ?_
    rintro e u1 ⟨rfl, b1⟩
    clear k0_0 k0_1
    go_upto_region 3 with fail
    have hn := (H0.out.step b1).alloc #[I 10000, I 0] 23
    generalize World.alloc u1 _ = v1 at hn ⊢
    generalize u1.heap.size = gx at hn ⊢
    have H1 := Lib.hid hn
    clear hn H0 b1
    have k0_0 : v1.cell? ⟨gx, 0, none⟩ = some (I 10000) := H1.out.cell 0 0 rfl rfl
    have k0_1 : v1.cell? ⟨gx, 1, none⟩ = some (I 0) := H1.out.cell 0 1 rfl rfl
    go_wp2_with fail
    refine (step_is HT.out _).mono ?_
    rintro e u2 ⟨rfl, b2⟩
    clear k0_0 k0_1
    go_upto_region 4 with fail
    have hn := (H1.out.step b2).alloc #[I 10000, I 0] 23
    generalize World.alloc u2 _ = v2 at hn ⊢
    generalize u2.heap.size = gy at hn ⊢
    have H2 := Lib.hid hn
    clear hn H1 b2
    have k0_0 : v2.cell? ⟨gy, 0, none⟩ = some (I 10000) := H2.out.cell 0 0 rfl rfl
    have k0_1 : v2.cell? ⟨gy, 1, none⟩ = some (I 0) := H2.out.cell 0 1 rfl rfl
    have k1_0 : v2.cell? ⟨gx, 0, none⟩ = some (I 10000) := H2.out.cell 1 0 rfl rfl
    have k1_1 : v2.cell? ⟨gx, 1, none⟩ = some (I 0) := H2.out.cell 1 1 rfl rfl
    go_wp2_with fail
    refine (stuck_is HU.out _).mono ?_
    rintro e u3 ⟨rfl, b3⟩
    have hn := H2.out.step b3
    have H3 := Lib.hid hn
    clear hn H2 b3 k0_0 k0_1 k1_0 k1_1
    have k0_0 : u3.cell? ⟨gy, 0, none⟩ = some (I 10000) := H3.out.cell 0 0 rfl rfl
    have k0_1 : u3.cell? ⟨gy, 1, none⟩ = some (I 0) := H3.out.cell 0 1 rfl rfl
    have k1_0 : u3.cell? ⟨gx, 0, none⟩ = some (I 10000) := H3.out.cell 1 0 rfl rfl
    have k1_1 : u3.cell? ⟨gx, 1, none⟩ = some (I 0) := H3.out.cell 1 1 rfl rfl
    go_wp2_with fail
    refine (Dig.awake_any _).mono ?_
    rintro e u9 ⟨rfl, b9⟩
    go_wp2
    go_ret
    exact ⟨rfl, (H3.out.step b9).bel⟩

/-! ### the row's step -/
set_option maxRecDepth 100000 in
theorem lifted (os : Os) (started : os.Started) (H : Type) (enc : TypeId × Value → H) :
    ReturnsInHanded {} Try.checked os 6 .any (Rows.diagEndSpec.pre6 enc Try.prog Try.f6 Rows.diagEndRow.domain false) (Rows.diagEndSpec.post enc Try.prog Try.f6 false true false false) := by
  refine returnsInHanded_of_change (C := Try.checked) own started (by kernel_rfl) Try.func6
    (ChangeSpec.witness6 (enc := enc) (C := Try.checked) false ⟨#[], #[.agg (Dig.Wd.cells ⟨0, 0⟩).toArray, .int .i64 0, .bool false], []⟩ 8 (by kernel_rfl) (by kernel_rfl) (by kernel_rfl) (by kernel_rfl)) ?_
  intro W base args ds gs before hval0 hW hcnd _
  have hval : ∀ (j : Nat) t v, Try.f6.params[j]? = some t → args[j]? = some v → Value.okWide Try.prog W .any base t v := hval0
  have hW' := hW
  obtain ⟨p, q, hA0, hV, rfl, hfz, hnd⟩ := hW
  have hA : DataW.TrodAll enc Try.prog W 0 (fun _ => true) true Try.f6.params.toList args.toList ds p := hA0
  rw [Try.params6] at hA hval
  obtain ⟨v0, vs0, d0, ds0, p0, q0, hargs, rfl, rfl, h0, r0⟩ := trodAll_cons hA
  obtain ⟨v1, vs1, d1, ds1, p1, q1, rfl, rfl, rfl, h1, r1⟩ := trodAll_cons r0
  obtain ⟨v2, vs2, d2, ds2, p2, q2, rfl, rfl, rfl, h2, r2⟩ := trodAll_cons r1
  obtain ⟨rfl, rfl, rfl⟩ := trodAll_nil r2
  obtain rfl : args = #[v0, v1, v2] := by cases args; simp_all
  obtain ⟨rfl, rfl⟩ := trodVars_none hV
  obtain ⟨c0, rfl, _⟩ := okWide_struct Try.underlying23 (hval 0 23 v0 rfl rfl)
  have k0 := h0
  have lt0 : ∀ x ∈ p0, x.block < W.heap.size := by obtain ⟨m, hm⟩ := k0; exact DataW.trod_lt m _ _ _ hm
  obtain ⟨x0, e0⟩ : ∃ x : Dig.Wd, c0 = x.cells.toArray := by
    obtain ⟨fuel, hf⟩ := h0
    obtain ⟨x, e⟩ := Dig.wd_el (Flat.trod_flat 4 _ _ Dig.flW fuel _ _ hf)
    exact ⟨x, by rw [← e]; simp [Value.cells]⟩
  subst e0
  obtain ⟨a1, rfl, rfl, rfl, w1⟩ := open_int Try.underlying3 (hval 1 3 v1 rfl rfl) h1
  obtain ⟨a2, rfl, rfl, rfl⟩ := open_bool Try.underlying4 (hval 2 4 v2 rfl rfl) h2
  clear hA0 hval0
  refine (walk x0 a1 a2 W w1).mono fun e W' ⟨he, bel⟩ => ?_
  subst he
  exact ⟨_, rfl, _, _, _, [], _, [], hW', trodAll_mk1 (shut_bool Try.underlying4 _), (trodAll_cons_mk (Below.trod laidOut (by kernel_rfl) (of_decide_eq_true (by kernel_rfl)) k0 bel lt0) (trodAll_cons_mk (shut_int Try.underlying3 w1) (trodAll_cons_mk (shut_bool Try.underlying4 _) trodAll_mk0))), rfl, bel.frame _, fun h => by cases h⟩

theorem over : Rows.diagEndRow.holds Try.pinned (OpenSpec.ofChange Rows.diagEndSpec) :=
  OpenClaim.holds_of_wide 6 Try.f6 rfl rfl rfl rfl rfl rfl rfl ⟨rfl, rfl, rfl, rfl, rfl⟩ rfl rfl rfl rfl rfl (by kernel_rfl) Try.func6 (by kernel_rfl)
    (of_decide_eq_true (by kernel_rfl)) (by unfold Func.isWrapper; first | (rw [if_pos (by decide +kernel)]; kernel_rfl) | (rw [if_neg (by decide +kernel)]; exact ⟨rfl, rfl⟩))
    (fun os started H enc _ => lifted os started H enc)

/-- the statement -/
theorem proved : Rows.DiagEndSaid :=
  over
#print axioms proved
end Go.Proofs.Ytlgcckolibbgfaa.diagEnd
