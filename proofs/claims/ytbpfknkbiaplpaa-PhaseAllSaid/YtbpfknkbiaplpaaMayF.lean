/- The contracts of mayLevel, maySeconds, of the document's Level and Seconds, of Signbit and of a float's bits. -/
import Derived.Test.YtbpfknkbiaplpaaRows
import Derived.Test.YtbpfknkbiaplpaaSk
namespace Go.Proofs.Ytbpfknkbiaplpaa.MayF
open Go.ChangeShapes Go.WideShapes Go.ChangeAt Go.RowKit Go.Proofs.Fl
open Secs
set_option linter.unusedVariables false
set_option linter.unusedSimpArgs false

/-- A float's sign, as Signbit asks for it. -/
def neg (x : Nat) : Bool := decide (wrap64 (x : Int) < 0)
theorem signbit_any (x : Nat) (w : World) : Calls Try.prog 86 #[.float .f64 x] w fun e w' => e = .returned (.bool (neg x)) ∧ w = w' := by
  have hb := bits_call x
  go_enter Try.func86, Try.ntmps86
  go_wp2_with (simp only [hb])
  go_ret
  exact ⟨rfl, rfl⟩
/-- A level. -/
def level (x : Nat) : Bool := !isn x && decide (0 < key x) && decide (key x ≤ 4696837146684686336)
theorem keyM : key 4696837146684686336 = 4696837146684686336 := by decide
theorem isnM : isn 4696837146684686336 = false := by decide
theorem rlevel_any (x : Nat) (w : World) : Calls Try.prog 67 #[.float .f64 x] w fun e w' => e = .returned (.bool (level x)) ∧ w = w' := by
  cases hn : isn x
  · have h0 := ord_cases x 0 hn isn0
    have hT := ord_cases x 4696837146684686336 hn isnM
    rw [key0] at h0
    rw [keyM] at hT
    have HN := Lib.hid hn
    clear hn
    rcases h0 with ⟨a, ho⟩ | ⟨a, ho⟩ | ⟨a, ho⟩
    all_goals rcases hT with ⟨b, ho2⟩ | ⟨b, ho2⟩ | ⟨b, ho2⟩
    all_goals
      have HA := Lib.hid a
      have HB := Lib.hid b
      clear a b
      go_enter Try.func67, Try.ntmps67
      go_wp2
      go_ret
      have a := HA.out
      have b := HB.out
      exact ⟨ret_bool (by unfold level; rw [HN.out]; first | (rw [decide_eq_true (by omega), decide_eq_true (by omega)]; rfl) | (rw [decide_eq_false (by omega)]; simp) | (rw [decide_eq_false (p := key x ≤ _) (by omega)]; simp)), rfl⟩
  · have ho := ord_nan x 0 (.inl hn)
    have ho2 := ord_nan x 4696837146684686336 (.inl hn)
    have HN := Lib.hid hn
    clear hn
    go_enter Try.func67, Try.ntmps67
    go_wp2
    go_ret
    exact ⟨ret_bool (by unfold level; rw [HN.out]; rfl), rfl⟩
/-- Seconds. -/
def span (x : Nat) : Bool := ok x && !neg x
theorem rspan_any (x : Nat) (w : World) : Calls Try.prog 68 #[.float .f64 x] w fun e w' => e = .returned (.bool (span x)) ∧ w = w' := by
  cases hk : ok x
  · have HK := Lib.hid hk
    clear hk
    go_enter Try.func68, Try.ntmps68
    go_wp2_with (go_at_call 85; refine (rticks_no HK.out _).mono ?_; rintro e w' ⟨rfl, rfl⟩)
    go_ret
    exact ⟨ret_bool (by unfold span; rw [HK.out, Bool.false_and]), rfl⟩
  · have HK := Lib.hid hk
    clear hk
    go_enter Try.func68, Try.ntmps68
    go_wp2_with (first | (go_at_call 85; refine (rticks_yes HK.out _).mono ?_; rintro e w' ⟨rfl, rfl⟩) | (go_at_call 86; refine (signbit_any _ _).mono ?_; rintro e w' ⟨rfl, rfl⟩))
    go_ret
    exact ⟨ret_bool (by unfold span; rw [HK.out, Bool.true_and]), rfl⟩
end Go.Proofs.Ytbpfknkbiaplpaa.MayF
