/- Counts: the document's Cut and More, and what is one more of a count. -/
import Derived.Test.YtbpfknkbiaplpaaRows
import Derived.WalkKit
import Derived.WalkLawsBesides
import Derived.ProofKit
import Derived.IntWalk
import Derived.Lib.Hide
import Derived.Below
namespace Go.Proofs.Ytbpfknkbiaplpaa.Cnt
open Go.ChangeShapes Go.WideShapes Go.ChangeAt Go.RowKit
set_option linter.unusedVariables false
set_option linter.unusedSimpArgs false
theorem ret_int {k : IntKind} {a b : Int} (h : a = b) : Ending.returned (.int k a) = .returned (.int k b) := by rw [h]
theorem ret_bool {a b : Bool} (h : a = b) : Ending.returned (.bool a) = .returned (.bool b) := by rw [h]
/-- n, cut to a to b -/
def ct (n a b : Int) : Int := if n < a then a else if b < n then b else n
def more (n : Int) : Int := ct n 0 9999 + 1
theorem ct_lo {n a b : Int} (h : a ≤ b) : a ≤ ct n a b := by unfold ct; split <;> (try split) <;> omega
theorem ct_hi {n a b : Int} (h : a ≤ b) : ct n a b ≤ b := by unfold ct; split <;> (try split) <;> omega
theorem ct_in {n a b : Int} (h : a ≤ n) (h2 : n ≤ b) : ct n a b = n := by unfold ct; split <;> (try split) <;> omega
theorem more_in {n : Int} (h : 0 ≤ n) (h2 : n ≤ 9999) : more n = n + 1 := by unfold more; rw [ct_in h h2]
theorem more_lo (n : Int) : 1 ≤ more n := by unfold more; have := ct_lo (n := n) (a := 0) (b := 9999) (by decide); omega
theorem more_hi (n : Int) : more n ≤ 10000 := by unfold more; have := ct_hi (n := n) (a := 0) (b := 9999) (by decide); omega
theorem rcut_any (n a b : Int) (w : World) : Calls Try.prog 38 #[.int .i64 n, .int .i64 a, .int .i64 b] w fun e w' => e = .returned (.int .i64 (ct n a b)) ∧ w = w' := by
  by_cases h1 : n < a
  · have HE : Hid (ct n a b = a) := Lib.hid (by unfold ct; rw [if_pos h1])
    go_enter Try.func38, Try.ntmps38
    go_wp2
    go_ret
    exact ⟨ret_int HE.out.symm, rfl⟩
  by_cases h2 : b < n
  · have HE : Hid (ct n a b = b) := Lib.hid (by unfold ct; rw [if_neg h1, if_pos h2])
    go_enter Try.func38, Try.ntmps38
    go_wp2
    go_ret
    exact ⟨ret_int HE.out.symm, rfl⟩
  · have HE : Hid (ct n a b = n) := Lib.hid (by unfold ct; rw [if_neg h1, if_neg h2])
    go_enter Try.func38, Try.ntmps38
    go_wp2
    go_ret
    exact ⟨ret_int HE.out.symm, rfl⟩
theorem rmore1_any (n : Int) (w : World) : Calls Try.prog 52 #[.int .i64 n] w fun e w' => e = .returned (.int .i64 (more n)) ∧ w = w' := by
  have h0 := ct_lo (n := n) (a := 0) (b := 9999) (by decide)
  have h1 := ct_hi (n := n) (a := 0) (b := 9999) (by decide)
  have e1 : IntKind.i64.wrap (ct n 0 9999 + 1) = ct n 0 9999 + 1 := by rw [IntKind.wrap_i64]; omega
  go_enter Try.func52, Try.ntmps52
  go_wp2_with (go_at_call 38; refine (rcut_any _ _ _ _).mono ?_; rintro e w' ⟨rfl, rfl⟩)
  go_ret
  exact ⟨rfl, rfl⟩
theorem rmore_any (n : Int) (w : World) : Calls Try.prog 25 #[.int .i64 n] w fun e w' => e = .returned (.int .i64 (more n)) ∧ w = w' := by
  go_enter Try.func25, Try.ntmps25
  go_wp2_with (go_at_call 52; refine (rmore1_any _ _).mono ?_; rintro e w' ⟨rfl, rfl⟩)
  go_ret
  exact ⟨rfl, rfl⟩
theorem place_any (v n : Int) (w : World) (h : 0 < n) (h' : n ≤ 9223372036854775807) :
    Calls Try.prog 18 #[.int .i64 v, .int .i64 n] w fun e w' => e = .returned (.int .i64 (v % n)) ∧ w = w' := by
  have hm := Int.emod_nonneg v (show n ≠ 0 by omega)
  have hm2 := Int.emod_lt_of_pos v h
  have ht : 0 ≤ v.tmod n ∧ v % n = v.tmod n ∨ v.tmod n < 0 ∧ v % n = v.tmod n + n := by
    have h1 := Int.tmod_eq_emod (a := v) (b := n)
    split at h1 <;> omega
  have hb : -9223372036854775808 ≤ v.tmod n ∧ v.tmod n ≤ 9223372036854775807 := by omega
  obtain ⟨hb1, hb2⟩ := hb
  have hn0 : n ≠ 0 := by omega
  rcases ht with ⟨ht, he⟩ | ⟨ht, he⟩
  · have He := Lib.hid he
    clear he hm hm2
    go_enter Try.func18, Try.ntmps18
    go_wp2
    go_ret
    exact ⟨ret_int (by rw [He.out]), rfl⟩
  · have He := Lib.hid he
    clear he hm hm2
    go_enter Try.func18, Try.ntmps18
    go_wp2
    go_ret
    exact ⟨ret_int (by rw [He.out]), rfl⟩
end Go.Proofs.Ytbpfknkbiaplpaa.Cnt
