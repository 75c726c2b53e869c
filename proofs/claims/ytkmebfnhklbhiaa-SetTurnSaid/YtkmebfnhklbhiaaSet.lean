/- The contracts of package set's bit, Has, With and Without, and of the document's own Has, at all integers. -/
import Derived.Test.YtkmebfnhklbhiaaRows
import Derived.Test.YtkmebfnhklbhiaaSetM
import Derived.WalkKit
import Derived.ProofKit
import Derived.IntWalk
import Derived.Lib.Hide
import Derived.LoopTactic
import Derived.Below
namespace Go.Proofs.Ytkmebfnhklbhiaa.Set
open Go.ChangeShapes Go.WideShapes Go.ChangeAt Go.RowKit
open Go.Proofs.Ytkmebfnhklbhiaa
set_option linter.unusedVariables false

theorem ret_int {k : IntKind} {a b : Int} (h : a = b) : Ending.returned (.int k a) = .returned (.int k b) := by rw [h]
theorem ret_bool {a b : Bool} (h : a = b) : Ending.returned (.bool a) = .returned (.bool b) := by rw [h]

theorem eight {p : Int} (h : 0 ≤ p) (h' : p < 8) : p = 0 ∨ p = 1 ∨ p = 2 ∨ p = 3 ∨ p = 4 ∨ p = 5 ∨ p = 6 ∨ p = 7 := by omega

set_option maxHeartbeats 400000 in
theorem bit_any (p : Int) (w : World) : Calls Try.prog 25 #[.int .i64 p] w fun e w' => e = .returned (.int .i64 (SetM.bit p)) ∧ w = w' := by
  by_cases h1 : p < 0
  · have HB := Lib.hid (SetM.bit_out (p := p) (by omega))
    go_enter Try.func25, Try.ntmps25
    go_wp2
    go_ret
    exact ⟨ret_int (by rw [HB.out]; rfl), rfl⟩
  by_cases h2 : 8 ≤ p
  · have HB := Lib.hid (SetM.bit_out (p := p) (by omega))
    go_enter Try.func25, Try.ntmps25
    go_wp2
    go_ret
    exact ⟨ret_int (by rw [HB.out]; rfl), rfl⟩
  rcases eight (p := p) (by omega) (by omega) with rfl | rfl | rfl | rfl | rfl | rfl | rfl | rfl
  all_goals
    clear h1 h2
    go_enter Try.func25, Try.ntmps25
    go_wp2
    go_ret
    exact ⟨ret_int (by decide), rfl⟩


theorem ne_has (s p : Int) : (bits .and .i64 s (SetM.bit p) != 0) = SetM.has s p := by
  have h := SetM.has_and s p
  cases hb : SetM.has s p
  · rw [h.2 hb]; rfl
  · rw [bne_iff_ne]; intro e; rw [h.1 e] at hb; cases hb

set_option maxHeartbeats 400000 in
theorem has_any (s p : Int) (w : World) : Calls Try.prog 8 #[.int .i64 s, .int .i64 p] w fun e w' => e = .returned (.bool (SetM.has s p)) ∧ w = w' := by
  have HB := Lib.hid (ne_has s p)
  go_enter Try.func8, Try.ntmps8
  go_wp2_with (go_at_call 25; refine (bit_any _ _).mono ?_; rintro e w' ⟨rfl, rfl⟩)
  go_ret
  exact ⟨ret_bool HB.out, rfl⟩

set_option maxHeartbeats 400000 in
theorem with_any (s p : Int) (w : World) : Calls Try.prog 10 #[.int .i64 s, .int .i64 p] w fun e w' => e = .returned (.int .i64 (SetM.withN s p)) ∧ w = w' := by
  have HB := Lib.hid (SetM.with_bits s p)
  go_enter Try.func10, Try.ntmps10
  go_wp2_with (go_at_call 25; refine (bit_any _ _).mono ?_; rintro e w' ⟨rfl, rfl⟩)
  go_ret
  exact ⟨ret_int HB.out, rfl⟩

set_option maxHeartbeats 400000 in
theorem without_any (s p : Int) (w : World) : Calls Try.prog 12 #[.int .i64 s, .int .i64 p] w fun e w' => e = .returned (.int .i64 (SetM.withoutN s p)) ∧ w = w' := by
  have HB := Lib.hid (SetM.without_bits s p)
  go_enter Try.func12, Try.ntmps12
  go_wp2_with (go_at_call 25; refine (bit_any _ _).mono ?_; rintro e w' ⟨rfl, rfl⟩)
  go_ret
  exact ⟨ret_int HB.out, rfl⟩

/-! the document's own answer -/
theorem shr_has (s : Int) (k : Nat) (h : k < 8) : (bits .and .i64 (s / 2 ^ k) 1 == 1) = SetM.has s k := by
  rw [SetM.has_shr s k h]
  cases SetM.has s k <;> rfl

set_option maxHeartbeats 400000 in
theorem rhas_any (s p : Int) (w : World) : Calls Try.prog 9 #[.int .i64 s, .int .i64 p] w fun e w' => e = .returned (.bool (SetM.has s p)) ∧ w = w' := by
  by_cases h1 : p < 0
  · have HB := Lib.hid (SetM.has_neg s p h1)
    go_enter Try.func9, Try.ntmps9
    go_wp2
    go_ret
    exact ⟨ret_bool HB.out.symm, rfl⟩
  by_cases h2 : 8 ≤ p
  · have HB := Lib.hid (SetM.has_big s p h2)
    go_enter Try.func9, Try.ntmps9
    go_wp2
    go_ret
    exact ⟨ret_bool HB.out.symm, rfl⟩
  rcases eight (p := p) (by omega) (by omega) with rfl | rfl | rfl | rfl | rfl | rfl | rfl | rfl
  · have HB := Lib.hid (show (bits .and .i64 s 1 == 1) = SetM.has s 0 from by have := shr_has s 0 (by decide); simpa using this)
    clear h1 h2
    go_enter Try.func9, Try.ntmps9
    go_wp2
    go_ret
    exact ⟨ret_bool HB.out, rfl⟩
  · have HB := Lib.hid (show (bits .and .i64 (s / 2) 1 == 1) = SetM.has s 1 from shr_has s 1 (by decide))
    clear h1 h2
    go_enter Try.func9, Try.ntmps9
    go_wp2
    go_ret
    exact ⟨ret_bool HB.out, rfl⟩
  · have HB := Lib.hid (show (bits .and .i64 (s / 4) 1 == 1) = SetM.has s 2 from shr_has s 2 (by decide))
    clear h1 h2
    go_enter Try.func9, Try.ntmps9
    go_wp2
    go_ret
    exact ⟨ret_bool HB.out, rfl⟩
  · have HB := Lib.hid (show (bits .and .i64 (s / 8) 1 == 1) = SetM.has s 3 from shr_has s 3 (by decide))
    clear h1 h2
    go_enter Try.func9, Try.ntmps9
    go_wp2
    go_ret
    exact ⟨ret_bool HB.out, rfl⟩
  · have HB := Lib.hid (show (bits .and .i64 (s / 16) 1 == 1) = SetM.has s 4 from shr_has s 4 (by decide))
    clear h1 h2
    go_enter Try.func9, Try.ntmps9
    go_wp2
    go_ret
    exact ⟨ret_bool HB.out, rfl⟩
  · have HB := Lib.hid (show (bits .and .i64 (s / 32) 1 == 1) = SetM.has s 5 from shr_has s 5 (by decide))
    clear h1 h2
    go_enter Try.func9, Try.ntmps9
    go_wp2
    go_ret
    exact ⟨ret_bool HB.out, rfl⟩
  · have HB := Lib.hid (show (bits .and .i64 (s / 64) 1 == 1) = SetM.has s 6 from shr_has s 6 (by decide))
    clear h1 h2
    go_enter Try.func9, Try.ntmps9
    go_wp2
    go_ret
    exact ⟨ret_bool HB.out, rfl⟩
  · have HB := Lib.hid (show (bits .and .i64 (s / 128) 1 == 1) = SetM.has s 7 from shr_has s 7 (by decide))
    clear h1 h2
    go_enter Try.func9, Try.ntmps9
    go_wp2
    go_ret
    exact ⟨ret_bool HB.out, rfl⟩

end Go.Proofs.Ytkmebfnhklbhiaa.Set
