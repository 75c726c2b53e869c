/- The contracts of Ticks, of package secs and of the document, and of the sign of a float: XSecsW without what stage 6 does not call. -/
import Derived.Test.YtbmkkkkknofbaaaRows
import Derived.Test.YtbmkkkkknofbaaaSecs
import Derived.WalkKit
import Derived.WalkLawsBesides
import Derived.ProofKit
import Derived.IntWalk
import Derived.Lib.Hide
namespace Go.Proofs.Ytbmkkkkknofbaaa.Secs
open Go.ChangeShapes Go.WideShapes Go.ChangeAt Go.RowKit Go.Proofs.Fl
set_option linter.unusedVariables false
set_option linter.unusedSimpArgs false

def cap (n : Int) : Int := if n < 0 then 0 else if 2147483647 < n then 2147483647 else n
theorem cap_neg {n : Int} (h : n < 0) : cap n = 0 := by unfold cap; rw [if_pos h]
theorem cap_big {n : Int} (h : 2147483647 < n) : cap n = 2147483647 := by unfold cap; rw [if_neg (by omega), if_pos h]
theorem cap_in {n : Int} (h : 0 ≤ n) (h' : n ≤ 2147483647) : cap n = n := by unfold cap; rw [if_neg (by omega), if_neg (by omega)]
theorem ret_int {k : IntKind} {a b : Int} (h : a = b) : Ending.returned (.int k a) = .returned (.int k b) := by rw [h]
theorem ret_tick {a b : Int} (h : a = b) : Ending.returned (.tuple #[.int .i64 a, .bool true]) = .returned (.tuple #[.int .i64 b, .bool true]) := by rw [h]
theorem ret_bool {a b : Bool} (h : a = b) : Ending.returned (.bool a) = .returned (.bool b) := by rw [h]
theorem ret_float {k : FloatKind} {a b : Nat} (h : a = b) : Ending.returned (.float k a) = .returned (.float k b) := by rw [h]

/-! is it a number? -/
theorem o_ne_self (x : Nat) : (FloatKind.f64.format.order x x != some .eq) = isn x := by
  show (D.order x x != some .eq) = isn x
  cases h : isn x
  · have := o_eq h h
    rw [bne, this]; simp
  · rw [order_nan x x (.inl h)]; rfl
/-! seconds of ticks -/
/-- n, cut to 0 to 9999 -/
def cut (n : Int) : Nat := (if n < 0 then 0 else if 9999 < n then 9999 else n).toNat
theorem cut_le (n : Int) : cut n ≤ 9999 := by unfold cut; split <;> (try split) <;> omega
/-- that the quotients are what they are: proved by calculation elsewhere -/
def Quo : Prop := ∀ k : Nat, k ≤ 9999 → D.div (floatOfInt .f64 (k : Int)) ten = some (ofB k)
theorem quo_holds : Quo := by
  intro k hk
  have hf := float_of k (by omega)
  have hi := irung_lt k (by omega)
  obtain ⟨m, i, P, rx, -, -, -⟩ := read_fin (irung k) (by unfold fin rung; omega)
  have : ∃ s, D.div (floatOfInt .f64 (k : Int)) ten = some s := by
    rw [hf]
    unfold Ieee.Format.div
    rw [rx, show D.read ten = .number false 5629499534213120 (-49) by decide]
    unfold Ieee.Datum.quotient
    dsimp only
    rw [if_neg (by decide)]
    exact ⟨_, rfl⟩
  obtain ⟨s, hs⟩ := this
  unfold ofB
  rw [hs]
  rfl
theorem quo_at (hQ : Quo) (k : Int) (hk0 : 0 ≤ k) (hk : k ≤ 9999) : ∀ t w, (binOp .quo t (.float .f64 (floatOfInt .f64 k)) (.float .f64 4621819117588971520)).run Try.prog w = .ok (.float .f64 (ofB k.toNat)) w := by
  intro t w
  obtain ⟨n, rfl⟩ := Int.eq_ofNat_of_zero_le hk0
  exact run_float_arith w .quo t .f64 _ _ _ (hQ n (by omega))
theorem of_top : ofB (cut 9999) = 4652006429231887155 := by decide +kernel
/-! how two stand to each other, named -/
theorem ord_cases (x y : Nat) (hx : isn x = false) (hy : isn y = false) :
    (key x < key y ∧ FloatKind.f64.format.order x y = some .lt) ∨ (key x = key y ∧ FloatKind.f64.format.order x y = some .eq) ∨ (key y < key x ∧ FloatKind.f64.format.order x y = some .gt) := by
  have h : FloatKind.f64.format.order x y = some (compare (key x) (key y)) := order_key x y hx hy
  rw [h, Int.compare_eq_ite_lt]
  rcases Int.lt_trichotomy (key x) (key y) with hl | hl | hl
  · exact .inl ⟨hl, by rw [if_pos hl]⟩
  · exact .inr (.inl ⟨hl, by rw [if_neg (by omega), if_neg (by omega)]⟩)
  · exact .inr (.inr ⟨hl, by rw [if_neg (by omega), if_pos hl]⟩)
theorem ord_nan (x y : Nat) (h : isn x = true ∨ isn y = true) : FloatKind.f64.format.order x y = none := order_nan x y h
theorem key0 : key 0 = 0 := by decide
theorem keyT : key 4652006429231887155 = 4652006429231887155 := by decide
theorem isn0 : isn 0 = false := by decide
theorem isnT : isn 4652006429231887155 = false := by decide

/-! Ticks -/
theorem b00 (q : Nat) : q + (false || (false && q % 2 == 1)).toNat = q := rfl
theorem b01 (q : Nat) (h : q % 2 = 1) : q + (false || (true && q % 2 == 1)).toNat = q + 1 := by rw [h]; rfl
theorem b02 (q : Nat) (h : q % 2 = 0) : q + (false || (true && q % 2 == 1)).toNat = q := by rw [h]; rfl
theorem b1 (q : Nat) (b : Bool) : q + (true || b).toNat = q + 1 := rfl
theorem cast1 (q : Nat) : (q : Int) + 1 = ((q + 1 : Nat) : Int) := rfl
theorem isnH : isn half = false := by decide
end Go.Proofs.Ytbmkkkkknofbaaa.Secs
