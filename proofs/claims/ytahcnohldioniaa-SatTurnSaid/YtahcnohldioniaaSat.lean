/- The contracts of the counts of ticks: limit, wide, Cap, Full, Add, Sub, Mul of package sat and of the document's answers return what the plain function 'cap' gives, at all integers that fit 64 bits. -/
import Derived.Test.YtahcnohldioniaaRows
import Derived.WalkKit
import Derived.ProofKit
import Derived.IntWalk
import Derived.Lib.Hide
import Derived.LoopTactic
import Derived.Below
namespace Go.Proofs.Ytahcnohldioniaa.Sat
open Go.ChangeShapes Go.WideShapes Go.ChangeAt Go.RowKit
set_option linter.unusedVariables false

def cap (n : Int) : Int := if n < 0 then 0 else if 2147483647 < n then 2147483647 else n
theorem cap_lo (n : Int) : 0 ≤ cap n := by unfold cap; split <;> (try split) <;> omega
theorem cap_hi (n : Int) : cap n ≤ 2147483647 := by unfold cap; split <;> (try split) <;> omega
theorem cap_neg {n : Int} (h : n < 0) : cap n = 0 := by unfold cap; rw [if_pos h]
theorem cap_big {n : Int} (h : 2147483647 < n) : cap n = 2147483647 := by unfold cap; rw [if_neg (by omega), if_pos h]
theorem cap_in {n : Int} (h : 0 ≤ n) (h' : n ≤ 2147483647) : cap n = n := by unfold cap; rw [if_neg (by omega), if_neg (by omega)]
theorem cap_cap (n : Int) : cap (cap n) = cap n := cap_in (cap_lo n) (cap_hi n)
theorem mul_bd {a b : Int} (ha : 0 ≤ a) (ha' : a ≤ 2147483647) (hb : 0 ≤ b) (hb' : b ≤ 2147483647) : 0 ≤ a * b ∧ a * b ≤ 2147483647 * 2147483647 := by
  refine ⟨Int.mul_nonneg ha hb, ?_⟩
  exact Int.mul_le_mul ha' hb' hb (by omega)

theorem ret_int {k : IntKind} {a b : Int} (h : a = b) : Ending.returned (.int k a) = .returned (.int k b) := by rw [h]

set_option maxHeartbeats 400000 in
theorem limit_any (n : Int) (w : World) : Calls Try.prog 20 #[.int .i64 n] w fun e w' => e = .returned (.int .i64 (cap n)) ∧ w = w' := by
  by_cases h1 : n < 0
  · go_enter Try.func20, Try.ntmps20
    go_wp2
    go_ret
    exact ⟨ret_int (cap_neg h1).symm, rfl⟩
  by_cases h2 : 2147483647 < n
  · go_enter Try.func20, Try.ntmps20
    go_wp2
    go_ret
    exact ⟨ret_int (cap_big h2).symm, rfl⟩
  · go_enter Try.func20, Try.ntmps20
    go_wp2
    go_ret
    exact ⟨ret_int (cap_in (by omega) (by omega)).symm, rfl⟩

theorem cap_any (n : Int) (w : World) : Calls Try.prog 8 #[.int .i64 n] w fun e w' => e = .returned (.int .i64 (cap n)) ∧ w = w' := by
  go_enter Try.func8, Try.ntmps8
  go_wp2_with (go_at_call 20; refine (limit_any _ _).mono ?_; rintro e w' ⟨rfl, rfl⟩)
  go_ret
  exact ⟨rfl, rfl⟩


theorem wide_any (n : Int) (w : World) : Calls Try.prog 22 #[.int .i64 n] w fun e w' => e = .returned (.int .i64 (cap n)) ∧ w = w' := by
  have b1 := cap_lo n
  have b2 := cap_hi n
  go_enter Try.func22, Try.ntmps22
  go_wp2_with (go_at_call 8; refine (cap_any _ _).mono ?_; rintro e w' ⟨rfl, rfl⟩)
  go_ret
  exact ⟨rfl, rfl⟩

def add (a b : Int) : Int := cap (cap a + cap b)
def sub (a b : Int) : Int := cap (cap a - cap b)
def mul (a b : Int) : Int := cap (cap a * cap b)

set_option maxHeartbeats 400000 in
theorem add_any (a b : Int) (w : World) : Calls Try.prog 11 #[.int .i64 a, .int .i64 b] w fun e w' => e = .returned (.int .i64 (add a b)) ∧ w = w' := by
  have b1 := cap_lo a
  have b2 := cap_hi a
  have b3 := cap_lo b
  have b4 := cap_hi b
  go_enter Try.func11, Try.ntmps11
  go_wp2_with (first | (go_at_call 22; refine (wide_any _ _).mono ?_; rintro e w' ⟨rfl, rfl⟩) | (go_at_call 20; refine (limit_any _ _).mono ?_; rintro e w' ⟨rfl, rfl⟩))
  go_ret
  exact ⟨rfl, rfl⟩

set_option maxHeartbeats 400000 in
theorem sub_any (a b : Int) (w : World) : Calls Try.prog 13 #[.int .i64 a, .int .i64 b] w fun e w' => e = .returned (.int .i64 (sub a b)) ∧ w = w' := by
  have b1 := cap_lo a
  have b2 := cap_hi a
  have b3 := cap_lo b
  have b4 := cap_hi b
  go_enter Try.func13, Try.ntmps13
  go_wp2_with (first | (go_at_call 22; refine (wide_any _ _).mono ?_; rintro e w' ⟨rfl, rfl⟩) | (go_at_call 20; refine (limit_any _ _).mono ?_; rintro e w' ⟨rfl, rfl⟩))
  go_ret
  exact ⟨rfl, rfl⟩

set_option maxHeartbeats 400000 in
theorem mul_any (a b : Int) (w : World) : Calls Try.prog 15 #[.int .i64 a, .int .i64 b] w fun e w' => e = .returned (.int .i64 (mul a b)) ∧ w = w' := by
  have b1 := cap_lo a
  have b2 := cap_hi a
  have b3 := cap_lo b
  have b4 := cap_hi b
  obtain ⟨c1, c2⟩ := mul_bd b1 b2 b3 b4
  go_enter Try.func15, Try.ntmps15
  go_wp2_with (first | (go_at_call 22; refine (wide_any _ _).mono ?_; rintro e w' ⟨rfl, rfl⟩) | (go_at_call 20; refine (limit_any _ _).mono ?_; rintro e w' ⟨rfl, rfl⟩))
  go_ret
  exact ⟨rfl, rfl⟩

def full (n : Int) : Bool := decide (2147483647 ≤ n)
theorem full_any (n : Int) (w : World) : Calls Try.prog 10 #[.int .i64 n] w fun e w' => e = .returned (.bool (full n)) ∧ w = w' := by
  go_enter Try.func10, Try.ntmps10
  go_wp2
  go_ret
  exact ⟨rfl, rfl⟩

/-! the document's answers -/
set_option maxHeartbeats 400000 in
theorem cut_cap (n : Int) (w : World) : Calls Try.prog 21 #[.int .i64 n, .int .i64 0, .int .i64 2147483647] w fun e w' => e = .returned (.int .i64 (cap n)) ∧ w = w' := by
  by_cases h1 : n < 0
  · go_enter Try.func21, Try.ntmps21
    go_wp2
    go_ret
    exact ⟨ret_int (cap_neg h1).symm, rfl⟩
  by_cases h2 : 2147483647 < n
  · go_enter Try.func21, Try.ntmps21
    go_wp2
    go_ret
    exact ⟨ret_int (cap_big h2).symm, rfl⟩
  · go_enter Try.func21, Try.ntmps21
    go_wp2
    go_ret
    exact ⟨ret_int (cap_in (by omega) (by omega)).symm, rfl⟩

theorem rcap_any (n : Int) (w : World) : Calls Try.prog 9 #[.int .i64 n] w fun e w' => e = .returned (.int .i64 (cap n)) ∧ w = w' := by
  go_enter Try.func9, Try.ntmps9
  go_wp2_with (go_at_call 21; refine (cut_cap _ _).mono ?_; rintro e w' ⟨rfl, rfl⟩)
  go_ret
  exact ⟨rfl, rfl⟩

set_option maxHeartbeats 400000 in
theorem radd_any (a b : Int) (w : World) : Calls Try.prog 12 #[.int .i64 a, .int .i64 b] w fun e w' => e = .returned (.int .i64 (add a b)) ∧ w = w' := by
  have b1 := cap_lo a
  have b2 := cap_hi a
  have b3 := cap_lo b
  have b4 := cap_hi b
  go_enter Try.func12, Try.ntmps12
  go_wp2_with (go_at_call 9; refine (rcap_any _ _).mono ?_; rintro e w' ⟨rfl, rfl⟩)
  go_ret
  exact ⟨rfl, rfl⟩

set_option maxHeartbeats 400000 in
theorem rsub_any (a b : Int) (w : World) : Calls Try.prog 14 #[.int .i64 a, .int .i64 b] w fun e w' => e = .returned (.int .i64 (sub a b)) ∧ w = w' := by
  have b1 := cap_lo a
  have b2 := cap_hi a
  have b3 := cap_lo b
  have b4 := cap_hi b
  go_enter Try.func14, Try.ntmps14
  go_wp2_with (go_at_call 9; refine (rcap_any _ _).mono ?_; rintro e w' ⟨rfl, rfl⟩)
  go_ret
  exact ⟨rfl, rfl⟩

set_option maxHeartbeats 400000 in
theorem rmul_any (a b : Int) (w : World) : Calls Try.prog 16 #[.int .i64 a, .int .i64 b] w fun e w' => e = .returned (.int .i64 (mul a b)) ∧ w = w' := by
  have b1 := cap_lo a
  have b2 := cap_hi a
  have b3 := cap_lo b
  have b4 := cap_hi b
  obtain ⟨c1, c2⟩ := mul_bd b1 b2 b3 b4
  go_enter Try.func16, Try.ntmps16
  go_wp2_with (go_at_call 9; refine (rcap_any _ _).mono ?_; rintro e w' ⟨rfl, rfl⟩)
  go_ret
  exact ⟨rfl, rfl⟩

/-! sums over a slice -/
/-- A slice of integers as a list: nil, or a row of cells. -/
def IsRow (w : World) (a : Option Addr) (len : Nat) (zs : List Int) : Prop :=
  len ≤ zs.length ∧ len ≤ maxLen ∧ (len = 0 ∨ ∃ x, a = some x ∧ ∀ i, i < zs.length → w.cell? (x.add i) = some (.int .i64 (zs.getD i 0)))

def sums (l : List Int) : Int := l.foldl add 0
theorem sums_snoc (l : List Int) (x : Int) : sums (l ++ [x]) = add (sums l) x := by unfold sums; rw [List.foldl_append]; rfl
theorem take_succ_getD (zs : List Int) (k : Nat) (h : k < zs.length) : zs.take (k + 1) = zs.take k ++ [zs.getD k 0] := by
  rw [List.take_succ_eq_append_getElem h, List.getD_eq_getElem?_getD, List.getElem?_eq_getElem h]; rfl
theorem sums_take (zs : List Int) (k : Nat) (h : k < zs.length) : sums (zs.take (k + 1)) = add (sums (zs.take k)) (zs.getD k 0) := by
  rw [take_succ_getD zs k h, sums_snoc]

set_option maxHeartbeats 400000 in
theorem sum_any (a : Option Addr) (len cap : Nat) (zs : List Int) (w : World) (h : IsRow w a len zs) :
    Calls Try.prog 18 #[.slice a len cap] w fun e w' => e = .returned (.int .i64 (sums (zs.take len))) ∧ w = w' := by
  obtain ⟨h1, h2, h3⟩ := h
  unfold maxLen at h2
  go_enter Try.func18, Try.ntmps18
  go_wp2
  go_loop [3, 8] (fun t i => ∃ k : Nat, k ≤ len ∧ i = .int .i64 k ∧ t = .int .i64 (sums (zs.take k))) (fun _ i => len - (intOf i).toNat)
  case atStart => exact ⟨0, Nat.zero_le _, rfl, rfl⟩
  case round =>
    obtain ⟨k, hk, rfl, rfl⟩ := hrel
    by_cases hlt : k < len
    · have HS := Lib.hid (sums_take zs k (by omega))
      obtain ⟨x, rfl, hc⟩ : ∃ x, a = some x ∧ ∀ i, i < zs.length → w.cell? (x.add i) = some (.int .i64 (zs.getD i 0)) := by
        rcases h3 with h3 | h3
        · omega
        · exact h3
      have hcell := hc k (by omega)
      clear hc h3
      go_wp2_with (go_at_call 11; refine (add_any _ _ _).mono ?_; rintro e w' ⟨rfl, rfl⟩)
      go_round
      case rel => exact ⟨k + 1, by omega, by go_num, by rw [HS.out, List.getD_eq_getElem?_getD]⟩
      case measure => simp [intOf]; omega
    · go_wp2
      go_ret
      have : k = len := by omega
      subst this
      exact ⟨rfl, rfl⟩


set_option maxHeartbeats 400000 in
theorem rsum_any (a : Option Addr) (len cap : Nat) (zs : List Int) (w : World) (h : IsRow w a len zs) :
    Calls Try.prog 19 #[.slice a len cap] w fun e w' => e = .returned (.int .i64 (sums (zs.take len))) ∧ w = w' := by
  obtain ⟨h1, h2, h3⟩ := h
  unfold maxLen at h2
  go_enter Try.func19, Try.ntmps19
  go_wp2
  go_loop [3, 4] (fun t i => ∃ k : Nat, k ≤ len ∧ i = .int .i64 k ∧ t = .int .i64 (sums (zs.take k))) (fun _ i => len - (intOf i).toNat)
  case atStart => exact ⟨0, Nat.zero_le _, rfl, rfl⟩
  case round =>
    obtain ⟨k, hk, rfl, rfl⟩ := hrel
    by_cases hlt : k < len
    · have HS := Lib.hid (sums_take zs k (by omega))
      obtain ⟨x, rfl, hc⟩ : ∃ x, a = some x ∧ ∀ i, i < zs.length → w.cell? (x.add i) = some (.int .i64 (zs.getD i 0)) := by
        rcases h3 with h3 | h3
        · omega
        · exact h3
      have hcell := hc k (by omega)
      clear hc h3
      go_wp2_with (go_at_call 12; refine (radd_any _ _ _).mono ?_; rintro e w' ⟨rfl, rfl⟩)
      go_round
      case rel => exact ⟨k + 1, by omega, by go_num, by rw [HS.out, List.getD_eq_getElem?_getD]⟩
      case measure => simp [intOf]; omega
    · go_wp2
      go_ret
      have : k = len := by omega
      subst this
      exact ⟨rfl, rfl⟩

/-! the chapter's examples -/
theorem ex1 : add 2147483647 1 = 2147483647 := by decide
theorem ex2 : sub 3 5 = 0 := by decide
theorem ex3 : mul 6 7 = 42 := by decide
theorem ex4 : sums ([1, 2, 3].take 3) = 6 := by decide

set_option maxHeartbeats 400000 in
theorem awake_any (w : World) : Calls Try.prog 17 #[] w fun e w' => e = .returned (.bool true) ∧ w.alloc (.cells #[.int .i64 1, .int .i64 2, .int .i64 3] 3) = w' := by
  go_enter Try.func17, Try.ntmps17
  go_wp2_with fail
  refine (add_any _ _ _).mono ?_; rintro e w' ⟨rfl, rfl⟩; rw [ex1]
  go_wp2_with fail
  refine (sub_any _ _ _).mono ?_; rintro e w' ⟨rfl, rfl⟩; rw [ex2]
  go_wp2_with fail
  refine (mul_any _ _ _).mono ?_; rintro e w' ⟨rfl, rfl⟩; rw [ex3]
  go_wp2_with fail
  refine (sum_any _ 3 _ [1, 2, 3] _ ⟨by simp, by unfold maxLen; omega, .inr ⟨_, rfl, ?_⟩⟩).mono ?_
  · intro i hi
    match i, hi with
    | 0, _ => (simp [Addr.add]; done)
    | 1, _ => (simp [Addr.add]; done)
    | 2, _ => (simp [Addr.add]; done)
  · rintro e w' ⟨rfl, rfl⟩
    rw [ex4]
    go_wp2
    go_ret
    exact ⟨rfl, rfl⟩

end Go.Proofs.Ytahcnohldioniaa.Sat
