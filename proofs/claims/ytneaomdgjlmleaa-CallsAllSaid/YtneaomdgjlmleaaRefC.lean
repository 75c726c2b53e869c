/- The contracts of the document's own capped sums: Cut, Cap, Add, Mul, Sum, sum and most. At all integers and rows of integers. -/
import Derived.Test.YtneaomdgjlmleaaRows
import Derived.Test.YtneaomdgjlmleaaTab
import Derived.WalkKit
import Derived.ProofKit
import Derived.IntWalk
import Derived.Lib.Hide
import Derived.LoopTactic
import Derived.Below
namespace Go.Proofs.Ytneaomdgjlmleaa.RefC
open Go.ChangeShapes Go.WideShapes Go.ChangeAt Go.RowKit
set_option linter.unusedVariables false

def cap (n : Int) : Int := if n < 0 then 0 else if 2147483647 < n then 2147483647 else n
theorem cap_lo (n : Int) : 0 ≤ cap n := by unfold cap; split <;> (try split) <;> omega
theorem cap_hi (n : Int) : cap n ≤ 2147483647 := by unfold cap; split <;> (try split) <;> omega
theorem cap_neg {n : Int} (h : n < 0) : cap n = 0 := by unfold cap; rw [if_pos h]
theorem cap_big {n : Int} (h : 2147483647 < n) : cap n = 2147483647 := by unfold cap; rw [if_neg (by omega), if_pos h]
theorem cap_in {n : Int} (h : 0 ≤ n) (h' : n ≤ 2147483647) : cap n = n := by unfold cap; rw [if_neg (by omega), if_neg (by omega)]
theorem cap_cap (n : Int) : cap (cap n) = cap n := cap_in (cap_lo n) (cap_hi n)
theorem mul_bd {a b : Int} (ha : 0 ≤ a) (ha' : a ≤ 2147483647) (hb : 0 ≤ b) (hb' : b ≤ 2147483647) : 0 ≤ a * b ∧ a * b ≤ 2147483647 * 2147483647 := by
  refine ⟨Int.mul_nonneg ha hb, ?_⟩
  exact Int.mul_le_mul ha' hb' hb (by omega)

theorem ret_int {k : IntKind} {a b : Int} (h : a = b) : Ending.returned (.int k a) = .returned (.int k b) := by rw [h]
def add (a b : Int) : Int := cap (cap a + cap b)
def mul (a b : Int) : Int := cap (cap a * cap b)
set_option maxHeartbeats 400000 in
theorem cut_cap (n : Int) (w : World) : Calls Try.prog 80 #[.int .i64 n, .int .i64 0, .int .i64 2147483647] w fun e w' => e = .returned (.int .i64 (cap n)) ∧ w = w' := by
  by_cases h1 : n < 0
  · go_enter Try.func80, Try.ntmps80
    go_wp2
    go_ret
    exact ⟨ret_int (cap_neg h1).symm, rfl⟩
  by_cases h2 : 2147483647 < n
  · go_enter Try.func80, Try.ntmps80
    go_wp2
    go_ret
    exact ⟨ret_int (cap_big h2).symm, rfl⟩
  · go_enter Try.func80, Try.ntmps80
    go_wp2
    go_ret
    exact ⟨ret_int (cap_in (by omega) (by omega)).symm, rfl⟩

theorem rcap_any (n : Int) (w : World) : Calls Try.prog 87 #[.int .i64 n] w fun e w' => e = .returned (.int .i64 (cap n)) ∧ w = w' := by
  go_enter Try.func87, Try.ntmps87
  go_wp2_with (go_at_call 80; refine (cut_cap _ _).mono ?_; rintro e w' ⟨rfl, rfl⟩)
  go_ret
  exact ⟨rfl, rfl⟩

set_option maxHeartbeats 400000 in
theorem radd_any (a b : Int) (w : World) : Calls Try.prog 100 #[.int .i64 a, .int .i64 b] w fun e w' => e = .returned (.int .i64 (add a b)) ∧ w = w' := by
  have b1 := cap_lo a
  have b2 := cap_hi a
  have b3 := cap_lo b
  have b4 := cap_hi b
  go_enter Try.func100, Try.ntmps100
  go_wp2_with (go_at_call 87; refine (rcap_any _ _).mono ?_; rintro e w' ⟨rfl, rfl⟩)
  go_ret
  exact ⟨rfl, rfl⟩
set_option maxHeartbeats 400000 in
theorem rmul_any (a b : Int) (w : World) : Calls Try.prog 71 #[.int .i64 a, .int .i64 b] w fun e w' => e = .returned (.int .i64 (mul a b)) ∧ w = w' := by
  have b1 := cap_lo a
  have b2 := cap_hi a
  have b3 := cap_lo b
  have b4 := cap_hi b
  obtain ⟨c1, c2⟩ := mul_bd b1 b2 b3 b4
  go_enter Try.func71, Try.ntmps71
  go_wp2_with (go_at_call 87; refine (rcap_any _ _).mono ?_; rintro e w' ⟨rfl, rfl⟩)
  go_ret
  exact ⟨rfl, rfl⟩
/-- A slice of integers as a list: nil, or a row of cells. -/
def IsRow (w : World) (a : Option Addr) (len : Nat) (zs : List Int) : Prop :=
  len ≤ zs.length ∧ len ≤ maxLen ∧ (len = 0 ∨ ∃ x, a = some x ∧ ∀ i, i < zs.length → w.cell? (x.add i) = some (.int .i64 (zs.getD i 0)))

def sums (l : List Int) : Int := l.foldl add 0
theorem sums_snoc (l : List Int) (x : Int) : sums (l ++ [x]) = add (sums l) x := by unfold sums; rw [List.foldl_append]; rfl
theorem take_succ_getD (zs : List Int) (k : Nat) (h : k < zs.length) : zs.take (k + 1) = zs.take k ++ [zs.getD k 0] := by
  rw [List.take_succ_eq_append_getElem h, List.getD_eq_getElem?_getD, List.getElem?_eq_getElem h]; rfl
theorem sums_take (zs : List Int) (k : Nat) (h : k < zs.length) : sums (zs.take (k + 1)) = add (sums (zs.take k)) (zs.getD k 0) := by
  rw [take_succ_getD zs k h, sums_snoc]
set_option maxHeartbeats 400000 in
theorem rsum_any (a : Option Addr) (len cap : Nat) (zs : List Int) (w : World) (h : IsRow w a len zs) :
    Calls Try.prog 86 #[.slice a len cap] w fun e w' => e = .returned (.int .i64 (sums (zs.take len))) ∧ w = w' := by
  obtain ⟨h1, h2, h3⟩ := h
  unfold maxLen at h2
  go_enter Try.func86, Try.ntmps86
  go_wp2
  go_loop [3, 4] (fun t i => ∃ k : Nat, k ≤ len ∧ i = .int .i64 k ∧ t = .int .i64 (sums (zs.take k))) (fun _ i => len - (intOf i).toNat)
  case atStart => exact ⟨0, Nat.zero_le _, rfl, rfl⟩
  case round =>
    obtain ⟨k, hk, rfl, rfl⟩ := hrel
    by_cases hlt : k < len
    · have HS := Lib.hid (sums_take zs k (by omega))
      obtain ⟨x, rfl, hc⟩ : ∃ x, a = some x ∧ ∀ i, i < zs.length → w.cell? (x.add i) = some (.int .i64 (zs.getD i 0)) := by
        rcases h3 with h3 | h3
        · omega
        · exact h3
      have hcell := hc k (by omega)
      clear hc h3
      go_wp2_with (go_at_call 100; refine (radd_any _ _ _).mono ?_; rintro e w' ⟨rfl, rfl⟩)
      go_round
      case rel => exact ⟨k + 1, by omega, by go_num, by rw [HS.out, List.getD_eq_getElem?_getD]⟩
      case measure => simp [intOf]; omega
    · go_wp2
      go_ret
      have : k = len := by omega
      subst this
      exact ⟨rfl, rfl⟩

open Tab in
theorem is_row {w : World} {a : Option Addr} {cap : Nat} {L : List Int} (h : IntRow w ⟨a, cap⟩ L) : IsRow w a L.length L := by
  have hl := h.len
  refine ⟨Nat.le_refl _, by omega, ?_⟩
  by_cases h0 : L.length = 0
  · exact .inl h0
  · have h1 : L[0]? = some L[0] := List.getElem?_eq_getElem (by omega)
    obtain ⟨x, hx, _⟩ := IntRow.at h h1
    refine .inr ⟨x, hx, fun i hi => ?_⟩
    obtain ⟨y, hy, hc⟩ := IntRow.at h (List.getElem?_eq_getElem hi)
    obtain rfl : x = y := Option.some.inj (hx.symm.trans hy)
    rw [hc, List.getD_eq_getElem?_getD, List.getElem?_eq_getElem hi]
    rfl
open Tab in
theorem rsum_row (a : Option Addr) (cap : Nat) (L : List Int) (w : World) (h : IntRow w ⟨a, cap⟩ L) :
    Calls Try.prog 86 #[.slice a L.length cap] w fun e w' => e = .returned (.int .i64 (sums L)) ∧ w = w' := by
  have := rsum_any a L.length cap L w (is_row h)
  rwa [List.take_length] at this
open Tab in
theorem sum_row (a : Option Addr) (cap : Nat) (L : List Int) (w : World) (h : IntRow w ⟨a, cap⟩ L) :
    Calls Try.prog 70 #[.slice a L.length cap] w fun e w' => e = .returned (.int .i64 (sums L)) ∧ w = w' := by
  have H := Lib.hid (rsum_row a cap L w h)
  clear h
  generalize sums L = s at H ⊢
  go_enter Try.func70, Try.ntmps70
  go_wp2_with fail
  refine H.out.mono ?_
  rintro e w' ⟨rfl, rfl⟩
  go_wp2
  go_ret
  exact ⟨rfl, rfl⟩
/-- The greatest, 0 of none. -/
def mosts (l : List Int) : Int := l.foldl max 0
theorem mosts_take (l : List Int) (k : Nat) (h : k < l.length) : mosts (l.take (k + 1)) = max (mosts (l.take k)) (l.getD k 0) := by
  rw [take_succ_getD l k h]; unfold mosts; rw [List.foldl_append]; rfl
open Tab in
set_option maxHeartbeats 400000 in
theorem most_row (a : Option Addr) (cap : Nat) (L : List Int) (w : World) (h : IntRow w ⟨a, cap⟩ L) :
    Calls Try.prog 89 #[.slice a L.length cap] w fun e w' => e = .returned (.int .i64 (mosts L)) ∧ w = w' := by
  obtain ⟨h1, h2, h3⟩ := is_row h
  unfold maxLen at h2
  clear h
  go_enter Try.func89, Try.ntmps89
  go_wp2
  go_loop [3, 4] (fun t i => ∃ k : Nat, k ≤ L.length ∧ i = .int .i64 k ∧ t = .int .i64 (mosts (L.take k))) (fun _ i => L.length - (intOf i).toNat)
  case atStart => exact ⟨0, Nat.zero_le _, rfl, rfl⟩
  case round =>
    obtain ⟨k, hk, rfl, rfl⟩ := hrel
    by_cases hlt : k < L.length
    · have HS := Lib.hid (mosts_take L k (by omega))
      obtain ⟨x, rfl, hc⟩ : ∃ x, a = some x ∧ ∀ i, i < L.length → w.cell? (x.add i) = some (.int .i64 (L.getD i 0)) := by
        rcases h3 with h3 | h3
        · omega
        · exact h3
      have hcell := hc k (by omega)
      clear hc h3
      generalize L.getD k 0 = v at HS hcell
      generalize mosts (L.take k) = m at HS ⊢
      by_cases hmv : m < v
      · have HM : Hid (max m v = v) := Lib.hid (by omega)
        go_wp2
        go_round
        case rel => exact ⟨k + 1, by omega, by go_num, by rw [HS.out]; first | rw [HM.out] | rfl⟩
        case measure => simp [intOf]; omega
      · have HM : Hid (max m v = m) := Lib.hid (by omega)
        go_wp2
        go_round
        case rel => exact ⟨k + 1, by omega, by go_num, by rw [HS.out]; first | rw [HM.out] | rfl⟩
        case measure => simp [intOf]; omega
    · go_wp2
      go_ret
      have : k = L.length := by omega
      subst this
      exact ⟨by rw [List.take_length]; rfl, rfl⟩
end Go.Proofs.Ytneaomdgjlmleaa.RefC
