/- The contracts of Ticks, of package secs and of the document, and of the sign of a float: XSecsW without what stage 6 does not call. -/
import Derived.Test.YtbpfknkbiaplpaaRows
import Derived.Test.YtbpfknkbiaplpaaSecs
import Derived.WalkKit
import Derived.WalkLawsBesides
import Derived.ProofKit
import Derived.IntWalk
import Derived.Lib.Hide
namespace Go.Proofs.Ytbpfknkbiaplpaa.Secs
open Go.ChangeShapes Go.WideShapes Go.ChangeAt Go.RowKit Go.Proofs.Fl
set_option linter.unusedVariables false
set_option linter.unusedSimpArgs false

def cap (n : Int) : Int := if n < 0 then 0 else if 2147483647 < n then 2147483647 else n
theorem cap_neg {n : Int} (h : n < 0) : cap n = 0 := by unfold cap; rw [if_pos h]
theorem cap_big {n : Int} (h : 2147483647 < n) : cap n = 2147483647 := by unfold cap; rw [if_neg (by omega), if_pos h]
theorem cap_in {n : Int} (h : 0 ≤ n) (h' : n ≤ 2147483647) : cap n = n := by unfold cap; rw [if_neg (by omega), if_neg (by omega)]
theorem ret_int {k : IntKind} {a b : Int} (h : a = b) : Ending.returned (.int k a) = .returned (.int k b) := by rw [h]
theorem ret_tick {a b : Int} (h : a = b) : Ending.returned (.tuple #[.int .i64 a, .bool true]) = .returned (.tuple #[.int .i64 b, .bool true]) := by rw [h]
theorem ret_bool {a b : Bool} (h : a = b) : Ending.returned (.bool a) = .returned (.bool b) := by rw [h]
theorem ret_float {k : FloatKind} {a b : Nat} (h : a = b) : Ending.returned (.float k a) = .returned (.float k b) := by rw [h]

/-! is it a number? -/
theorem o_ne_self (x : Nat) : (FloatKind.f64.format.order x x != some .eq) = isn x := by
  show (D.order x x != some .eq) = isn x
  cases h : isn x
  · have := o_eq h h
    rw [bne, this]; simp
  · rw [order_nan x x (.inl h)]; rfl
/-! seconds of ticks -/
/-- n, cut to 0 to 9999 -/
def cut (n : Int) : Nat := (if n < 0 then 0 else if 9999 < n then 9999 else n).toNat
theorem cut_le (n : Int) : cut n ≤ 9999 := by unfold cut; split <;> (try split) <;> omega
/-- that the quotients are what they are: proved by calculation elsewhere -/
def Quo : Prop := ∀ k : Nat, k ≤ 9999 → D.div (floatOfInt .f64 (k : Int)) ten = some (ofB k)
theorem quo_holds : Quo := by
  intro k hk
  have hf := float_of k (by omega)
  have hi := irung_lt k (by omega)
  obtain ⟨m, i, P, rx, -, -, -⟩ := read_fin (irung k) (by unfold fin rung; omega)
  have : ∃ s, D.div (floatOfInt .f64 (k : Int)) ten = some s := by
    rw [hf]
    unfold Ieee.Format.div
    rw [rx, show D.read ten = .number false 5629499534213120 (-49) by decide]
    unfold Ieee.Datum.quotient
    dsimp only
    rw [if_neg (by decide)]
    exact ⟨_, rfl⟩
  obtain ⟨s, hs⟩ := this
  unfold ofB
  rw [hs]
  rfl
theorem quo_at (hQ : Quo) (k : Int) (hk0 : 0 ≤ k) (hk : k ≤ 9999) : ∀ t w, (binOp .quo t (.float .f64 (floatOfInt .f64 k)) (.float .f64 4621819117588971520)).run Try.prog w = .ok (.float .f64 (ofB k.toNat)) w := by
  intro t w
  obtain ⟨n, rfl⟩ := Int.eq_ofNat_of_zero_le hk0
  exact run_float_arith w .quo t .f64 _ _ _ (hQ n (by omega))
theorem of_top : ofB (cut 9999) = 4652006429231887155 := by decide +kernel
theorem bits_call (x : Nat) (w : World) : (callFunc 91 #[.float .f64 x]).run Try.prog w = .ok (.value (.int .u64 x)) w := by
  rw [run_callFunc_extern (e := Extern.MathFloatBits.float64bits) Try.func91 (by kernel_rfl) (by kernel_rfl) (by kernel_rfl) (by kernel_rfl)]
  rfl
/-! how two stand to each other, named -/
theorem ord_cases (x y : Nat) (hx : isn x = false) (hy : isn y = false) :
    (key x < key y ∧ FloatKind.f64.format.order x y = some .lt) ∨ (key x = key y ∧ FloatKind.f64.format.order x y = some .eq) ∨ (key y < key x ∧ FloatKind.f64.format.order x y = some .gt) := by
  have h : FloatKind.f64.format.order x y = some (compare (key x) (key y)) := order_key x y hx hy
  rw [h, Int.compare_eq_ite_lt]
  rcases Int.lt_trichotomy (key x) (key y) with hl | hl | hl
  · exact .inl ⟨hl, by rw [if_pos hl]⟩
  · exact .inr (.inl ⟨hl, by rw [if_neg (by omega), if_neg (by omega)]⟩)
  · exact .inr (.inr ⟨hl, by rw [if_neg (by omega), if_pos hl]⟩)
theorem ord_nan (x y : Nat) (h : isn x = true ∨ isn y = true) : FloatKind.f64.format.order x y = none := order_nan x y h
theorem key0 : key 0 = 0 := by decide
theorem keyT : key 4652006429231887155 = 4652006429231887155 := by decide
theorem isn0 : isn 0 = false := by decide
theorem isnT : isn 4652006429231887155 = false := by decide

/-! Ticks -/
set_option maxHeartbeats 800000 in
theorem rticks_no {s : Nat} (h : ok s = false) (w : World) : Calls Try.prog 85 #[.float .f64 s] w fun e w' => e = .returned (.tuple #[.int .i64 0, .bool false]) ∧ w = w' := by
  cases hn : isn s
  · have h0 := ord_cases s 0 hn isn0
    have hT := ord_cases s 4652006429231887155 hn isnT
    rw [key0] at h0
    rw [keyT] at hT
    have hk : key s < 0 ∨ 0 ≤ key s ∧ 4652006429231887155 < key s := by
      have : ¬ ok s = true := by rw [h]; simp
      rw [ok_iff] at this
      by_cases a : key s < 0
      · exact .inl a
      · by_cases b : 4652006429231887155 < key s
        · exact .inr ⟨by omega, b⟩
        · exact absurd ⟨hn, by omega, by omega⟩ this
    clear hn h
    rcases hk with hk | ⟨hk0, hk⟩
    · have ho : FloatKind.f64.format.order s 0 = some .lt := by rcases h0 with ⟨a, b⟩ | ⟨a, b⟩ | ⟨a, b⟩ <;> first | exact b | omega
      clear h0 hT
      go_enter Try.func85, Try.ntmps85
      go_wp2
      go_ret2
      exact ⟨rfl, rfl⟩
    · have ho2 : FloatKind.f64.format.order s 4652006429231887155 = some .gt := by rcases hT with ⟨a, b⟩ | ⟨a, b⟩ | ⟨a, b⟩ <;> first | exact b | omega
      clear hT
      rcases h0 with ⟨a, ho⟩ | ⟨a, ho⟩ | ⟨a, ho⟩
      · omega
      all_goals
        clear a
        go_enter Try.func85, Try.ntmps85
        go_wp2
        go_ret2
        exact ⟨rfl, rfl⟩
  · have ho := ord_nan s 0 (.inl hn)
    have ho2 := ord_nan s 4652006429231887155 (.inl hn)
    clear hn h
    go_enter Try.func85, Try.ntmps85
    go_wp2
    go_ret2
    exact ⟨rfl, rfl⟩
theorem b00 (q : Nat) : q + (false || (false && q % 2 == 1)).toNat = q := rfl
theorem b01 (q : Nat) (h : q % 2 = 1) : q + (false || (true && q % 2 == 1)).toNat = q + 1 := by rw [h]; rfl
theorem b02 (q : Nat) (h : q % 2 = 0) : q + (false || (true && q % 2 == 1)).toNat = q := by rw [h]; rfl
theorem b1 (q : Nat) (b : Bool) : q + (true || b).toNat = q + 1 := rfl
theorem cast1 (q : Nat) : (q : Int) + 1 = ((q + 1 : Nat) : Int) := rfl
theorem isnH : isn half = false := by decide
set_option maxHeartbeats 2000000 in
theorem rticks_yes {s : Nat} (h : ok s = true) (w : World) : Calls Try.prog 85 #[.float .f64 s] w fun e w' => e = .returned (.tuple #[.int .i64 (tk s), .bool true]) ∧ w = w' := by
  obtain ⟨hn, hlo, hhi⟩ := (ok_iff s).1 h
  have h0 := ord_cases s 0 hn isn0
  have hT := ord_cases s 4652006429231887155 hn isnT
  rw [key0] at h0
  rw [keyT] at hT
  obtain ⟨hsub, hln, hgt, heq⟩ := rest_ok h
  have hH := ord_cases (lw s) half hln isnH
  have hq : qk s ≤ 9999 := Nat.le_trans (rhe_lo _ _) (tk_hi h)
  have htk := tk_qk s
  rw [← hgt, ← heq] at htk
  have hm : ∀ t w, (binOp .mul t (.float .f64 s) (.float .f64 4621819117588971520)).run Try.prog w = .ok (.float .f64 (xw s)) w := fun t w => run_float_arith w .mul t .f64 _ _ _ (mul_ok h).2
  have hc : ∀ w, (convert 70 3 (.float .f64 (xw s))).run Try.prog w = .ok (.int .i64 (qk s)) w := fun w => run_convert_float_int w 70 3 .f64 .i64 _ _ (by rw [Try.underlying70]; rfl) Try.underlying3 (cut_ok h)
  have hs : ∀ t w, (binOp .sub t (.float .f64 (xw s)) (.float .f64 (irung (qk s)))).run Try.prog w = .ok (.float .f64 (lw s)) w := fun t w => run_float_arith w .sub t .f64 _ _ _ hsub
  have hf := float_of (qk s) (by omega)
  have hq0 : (0 : Int) ≤ (qk s : Int) := by omega
  have hq1 : (qk s : Int) ≤ 9999 := by omega
  have HT := Lib.hid (show tk s = qk s + (decide (key half < key (lw s)) || (decide (key (lw s) = key half) && qk s % 2 == 1)).toNat from htk)
  clear htk hgt heq hsub hln hn h hq
  have par : qk s % 2 = 1 ∨ qk s % 2 = 0 := by omega
  rcases h0 with ⟨a, ho⟩ | ⟨a, ho⟩ | ⟨a, ho⟩
  · omega
  all_goals
    rcases hT with ⟨b, ho2⟩ | ⟨b, ho2⟩ | ⟨b, ho2⟩
    rotate_right
    · omega
    all_goals
      clear a b hlo hhi
      rcases hH with ⟨c, ho3⟩ | ⟨c, ho3⟩ | ⟨c, ho3⟩
      · have HE := Lib.hid (show tk s = qk s from by rw [HT.out, decide_eq_false (by omega), decide_eq_false (by omega)]; exact b00 _)
        clear HT par c
        go_enter Try.func85, Try.ntmps85
        go_wp2_with (simp only [hm, hc, hs, hf])
        go_ret2
        exact ⟨ret_tick (by rw [HE.out]), rfl⟩
      · rcases par with p | p
        · have HE := Lib.hid (show tk s = qk s + 1 from by rw [HT.out, decide_eq_false (by omega), decide_eq_true c]; exact b01 _ p)
          have p' : (qk s : Int) % 2 = 1 := by omega
          clear HT p c
          go_enter Try.func85, Try.ntmps85
          go_wp2_with (simp only [hm, hc, hs, hf])
          go_ret2
          exact ⟨ret_tick (by rw [HE.out]; exact cast1 _), rfl⟩
        · have HE := Lib.hid (show tk s = qk s from by rw [HT.out, decide_eq_false (by omega), decide_eq_true c]; exact b02 _ p)
          have p' : (qk s : Int) % 2 = 0 := by omega
          clear HT p c
          go_enter Try.func85, Try.ntmps85
          go_wp2_with (simp only [hm, hc, hs, hf])
          go_ret2
          exact ⟨ret_tick (by rw [HE.out]), rfl⟩
      · have HE := Lib.hid (show tk s = qk s + 1 from by rw [HT.out, decide_eq_true c]; exact b1 _ _)
        clear HT par c
        go_enter Try.func85, Try.ntmps85
        go_wp2_with (simp only [hm, hc, hs, hf])
        go_ret2
        exact ⟨ret_tick (by rw [HE.out]; exact cast1 _), rfl⟩
end Go.Proofs.Ytbpfknkbiaplpaa.Secs
