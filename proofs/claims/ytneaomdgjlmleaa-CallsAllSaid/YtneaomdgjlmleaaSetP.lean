/- The contracts of package set's bit, Has, With and Of, at all integers and slices of integers (the part of XSet and XSetR that needs no iterator). -/
import Derived.Test.YtneaomdgjlmleaaRows
import Derived.Test.YtneaomdgjlmleaaRefS
import Derived.WalkKit
import Derived.ProofKit
import Derived.IntWalk
import Derived.Lib.Hide
import Derived.LoopTactic
import Derived.Below
namespace Go.Proofs.Ytneaomdgjlmleaa.SetP
open Go.ChangeShapes Go.WideShapes Go.ChangeAt Go.RowKit
open Go.Proofs.Ytneaomdgjlmleaa
set_option linter.unusedVariables false

theorem ret_int {k : IntKind} {a b : Int} (h : a = b) : Ending.returned (.int k a) = .returned (.int k b) := by rw [h]
theorem ret_bool {a b : Bool} (h : a = b) : Ending.returned (.bool a) = .returned (.bool b) := by rw [h]

theorem eight {p : Int} (h : 0 ≤ p) (h' : p < 8) : p = 0 ∨ p = 1 ∨ p = 2 ∨ p = 3 ∨ p = 4 ∨ p = 5 ∨ p = 6 ∨ p = 7 := by omega

set_option maxHeartbeats 400000 in
theorem bit_any (p : Int) (w : World) : Calls Try.prog 65 #[.int .i64 p] w fun e w' => e = .returned (.int .i64 (SetM.bit p)) ∧ w = w' := by
  by_cases h1 : p < 0
  · have HB := Lib.hid (SetM.bit_out (p := p) (by omega))
    go_enter Try.func65, Try.ntmps65
    go_wp2
    go_ret
    exact ⟨ret_int (by rw [HB.out]; rfl), rfl⟩
  by_cases h2 : 8 ≤ p
  · have HB := Lib.hid (SetM.bit_out (p := p) (by omega))
    go_enter Try.func65, Try.ntmps65
    go_wp2
    go_ret
    exact ⟨ret_int (by rw [HB.out]; rfl), rfl⟩
  rcases eight (p := p) (by omega) (by omega) with rfl | rfl | rfl | rfl | rfl | rfl | rfl | rfl
  all_goals
    clear h1 h2
    go_enter Try.func65, Try.ntmps65
    go_wp2
    go_ret
    exact ⟨ret_int (by decide), rfl⟩


theorem ne_has (s p : Int) : (bits .and .i64 s (SetM.bit p) != 0) = SetM.has s p := by
  have h := SetM.has_and s p
  cases hb : SetM.has s p
  · rw [h.2 hb]; rfl
  · rw [bne_iff_ne]; intro e; rw [h.1 e] at hb; cases hb

set_option maxHeartbeats 400000 in
theorem has_any (s p : Int) (w : World) : Calls Try.prog 36 #[.int .i64 s, .int .i64 p] w fun e w' => e = .returned (.bool (SetM.has s p)) ∧ w = w' := by
  have HB := Lib.hid (ne_has s p)
  go_enter Try.func36, Try.ntmps36
  go_wp2_with (go_at_call 65; refine (bit_any _ _).mono ?_; rintro e w' ⟨rfl, rfl⟩)
  go_ret
  exact ⟨ret_bool HB.out, rfl⟩

set_option maxHeartbeats 400000 in
theorem with_any (s p : Int) (w : World) : Calls Try.prog 64 #[.int .i64 s, .int .i64 p] w fun e w' => e = .returned (.int .i64 (SetM.withN s p)) ∧ w = w' := by
  have HB := Lib.hid (SetM.with_bits s p)
  go_enter Try.func64, Try.ntmps64
  go_wp2_with (go_at_call 65; refine (bit_any _ _).mono ?_; rintro e w' ⟨rfl, rfl⟩)
  go_ret
  exact ⟨ret_int HB.out, rfl⟩

theorem with_take (l : List Int) (k : Nat) (h : k < l.length) : SetM.withN (SetM.of (l.take k) : Nat) (l.getD k 0) = SetM.of (l.take (k + 1)) := by
  rw [RefS.take_succ l k h, SetM.with_of]

end Go.Proofs.Ytneaomdgjlmleaa.SetP
