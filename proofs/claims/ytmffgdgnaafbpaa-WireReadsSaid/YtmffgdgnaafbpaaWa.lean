/- The chapter's example; Alike of one float and itself. -/
import Derived.Test.YtmffgdgnaafbpaaRf
namespace Go.Proofs.Ytmffgdgnaafbpaa.Wa
open Go.ChangeShapes Go.WideShapes Go.ChangeAt Go.RowKit
open B Put Rd Nx Num Nm
set_option linter.unusedVariables false

theorem two_row (w : World) : Row (w.alloc (.cells #[.int .u8 1, .int .u8 2] 5)) (some ⟨w.heap.size, 0, none⟩) [1, 2] := by
  refine ⟨by unfold maxLen; simp, by decide, .inr ⟨_, rfl, fun i hi => ?_⟩⟩
  have h2 : i = 0 ∨ i = 1 := by simp at hi; omega
  rcases h2 with rfl | rfl <;> (simp [Addr.add]; done)
theorem ex1 : num [1, 2] ⟨0, 0, 0⟩ (lim 2 7) 0 300 = (258, ⟨2, 0, 0⟩) := by rfl
theorem own_len {B : Nat} {w : World} {v : Value} {l : List Nat} (h : Own B w v l) : ∃ a cap, v = .slice a l.length cap := by
  rcases h.2 with ⟨rfl, h0⟩ | ⟨g, cap, cur, rfl, _⟩
  · exact ⟨none, 0, by rw [h0]⟩
  · exact ⟨_, _, rfl⟩
set_option maxHeartbeats 1000000 in
theorem awake_any (w : World) : Calls Try.prog 7 #[] w fun e w' => e = .returned (.bool true) ∧ Below w.heap.size w w' := by
  have hb0 := (Below.refl w.heap.size w).alloc (Nat.le_refl _) (.cells #[.int .u8 1, .int .u8 2] 5)
  go_enter Try.func7, Try.ntmps7
  go_wp2_with fail
  refine (new_any _ _ [1, 2] _ (two_row w) (by simp) (fun e => by cases e)).mono ?_
  rintro e w1 ⟨g, ad, cap, rfl, hg, hx, hr, hb⟩
  have Hr := Lib.hid hr
  have Hb : Below w.heap.size w w1 := hb0.trans (hb.mono (by simp))
  have hgw : w.heap.size ≤ g := by simp at hg; omega
  clear hr hb hx hg hb0
  go_wp2_with fail
  refine (num_any g ad cap [1, 2] ⟨0, 0, 0⟩ 2 0 300 _ Hr.out (by simp) ⟨Nat.zero_le _, fun _ => rfl⟩).mono ?_
  rintro e w2 ⟨rfl, hr2, hb2⟩
  rw [ex1] at hr2 ⊢
  have Hr2 := Lib.hid hr2
  have Hb2 : Below w.heap.size w w2 := Hb.trans (hb2.below Hb.size hgw)
  clear hr2 hb2
  go_wp2_with fail
  refine (at_any g ad cap [1, 2] 2 0 0 _ Hr2.out).mono ?_
  rintro e w' ⟨rfl, rfl⟩
  go_wp2_with fail
  refine (put_any none 0 [] 2 258 _ ⟨Nat.zero_le _, by simp, .inl rfl⟩ (by simp)).mono ?_
  rintro e w3 ⟨v, rfl, hown, hb3⟩
  obtain ⟨a3, cap3, rfl⟩ := own_len hown
  clear hown
  rw [show (([] : List Nat) ++ low (lim 2 8) 258).length = 2 from rfl]
  have Hb3 : Below w.heap.size w w3 := chain Hb2 hb3
  go_wp2
  go_ret
  exact ⟨rfl, Hb3⟩

/-! a float and itself -/
theorem neq_self (x : Nat) (w : World) : ∃ b, (binOp .neq 23 (.float .f64 x) (.float .f64 x)).run Try.prog w = .ok (.bool b) w := ⟨_, rfl⟩
set_option maxHeartbeats 1000000 in
theorem alike_any (x : Nat) (w : World) : Calls Try.prog 16 #[.float .f64 x, .float .f64 x] w fun e w' => e = .returned (.bool true) ∧ w = w' := by
  have hb := bits_call x
  go_enter Try.func16, Try.ntmps16
  go_wp2
  go_ret
  exact ⟨rfl, rfl⟩
end Go.Proofs.Ytmffgdgnaafbpaa.Wa
