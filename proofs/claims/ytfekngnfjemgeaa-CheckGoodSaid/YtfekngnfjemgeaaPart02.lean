/- 7 texts in one file, in build order. -/
import Derived.Test.YtfekngnfjemgeaaPart01
import Derived.Laws.FloatArith
import Derived.Test.YtfekngnfjemgeaaRows
import Derived.WalkKit
import Derived.WalkLawsBesides
import Derived.ProofKit
import Derived.IntWalk
import Derived.Lib.Hide
import Derived.Still
import Derived.StillTail
import Derived.Deep.QuietTactic
import Derived.Below
import Derived.Deep.WholeRow
import Derived.BigFrame
import Derived.Laws.StructEq
import Derived.Laws.CopyRow
import Derived.LoopTactic
set_option linter.unusedVariables false
set_option linter.unusedSimpArgs false
set_option linter.unusedSectionVars false
/- Plain mathematics of seconds and ticks: ten times a float64, rounded to a whole number; and of all 10,000 numbers of ticks their seconds, by calculation. -/
namespace Go.Proofs.Fl
open Ieee
set_option linter.unusedVariables false
set_option linter.unusedSimpArgs false

/-- ten, 999.9, a half -/
abbrev ten : Nat := 4621819117588971520
abbrev top : Nat := 4652006429231887155
abbrev half : Nat := 4602678819172646912

/-- the seconds that have ticks -/
def ok (s : Nat) : Bool := !isn s && decide (0 ≤ key s) && decide (key s ≤ 4652006429231887155)
theorem ok_iff (s : Nat) : ok s = true ↔ isn s = false ∧ 0 ≤ key s ∧ key s ≤ 4652006429231887155 := by
  unfold ok; simp [and_assoc]

theorem ok_fin {s : Nat} (h : ok s = true) : fin s := by
  obtain ⟨h1, h2, h3⟩ := (ok_iff s).1 h
  have := of_decide_eq_false h1
  unfold fin; unfold key at h2 h3
  split at h2 <;> simp_all <;> omega
theorem ok_rung {s : Nat} (h : ok s = true) : rung s ≤ 4652006429231887155 ∧ (sg s = true → rung s = 0) := by
  obtain ⟨h1, h2, h3⟩ := (ok_iff s).1 h
  unfold key at h2 h3
  cases hs : sg s <;> simp [hs] at h2 h3 ⊢ <;> omega

/-- the rung of ten times a number of seconds -/
def tr (s : Nat) : Nat := rungV 49 (5629499534213120 * val (rung s))
theorem mul_ten (s : Nat) (h : fin s) : D.mul ten s = some (D.word (sg s) (min (tr s) D.infRung)) := by
  obtain ⟨m, i, P, rx, hP, vx, -⟩ := read_fin s h
  unfold Format.mul
  rw [show D.read ten = .number false 5629499534213120 (-49) by decide, rx]
  unfold Datum.product
  dsimp only [Option.map_some]
  unfold Format.write
  dsimp only
  rw [nearest_eq _ _ _ P 49 (by omega), Nat.mul_assoc, vx, Bool.false_xor]
  rfl
theorem ten_mul (s : Nat) (h : fin s) : D.mul s ten = some (D.word (sg s) (min (tr s) D.infRung)) := by
  rw [← mul_ten s h]
  obtain ⟨m, i, P, rx, hP, vx, -⟩ := read_fin s h
  unfold Format.mul
  rw [show D.read ten = .number false 5629499534213120 (-49) by decide, rx]
  unfold Datum.product
  dsimp only
  rw [Nat.mul_comm, Int.add_comm, Bool.xor_comm]
theorem tr_top : tr 4652006429231887155 = 4666722622711529472 := by decide +kernel
theorem tr_mono {s t : Nat} (h : rung s ≤ rung t) : tr s ≤ tr t := rungV_mono 49 (Nat.mul_le_mul_left _ (val_le h))
theorem tr_hi {s : Nat} (h : ok s = true) : tr s ≤ 4666722622711529472 := by
  rw [← tr_top]
  exact tr_mono (ok_rung h).1

/-- ten times s, as a word -/
def xw (s : Nat) : Nat := D.word (sg s) (tr s)
theorem mul_ok {s : Nat} (h : ok s = true) : D.mul ten s = some (xw s) ∧ D.mul s ten = some (xw s) := by
  have e : min (tr s) D.infRung = tr s := Nat.min_eq_left (by have := tr_hi h; rw [inf_eq]; omega)
  rw [mul_ten s (ok_fin h), ten_mul s (ok_fin h), e]
  exact ⟨rfl, rfl⟩
theorem xw_rung {s : Nat} (h : ok s = true) : rung (xw s) = tr s := word_rung _ _ (by have := tr_hi h; omega)
theorem xw_sg {s : Nat} (h : ok s = true) : sg (xw s) = sg s := word_sg _ _ (by have := tr_hi h; omega)
theorem xw_fin {s : Nat} (h : ok s = true) : fin (xw s) := by unfold fin; rw [xw_rung h]; have := tr_hi h; omega

/-- the ticks of seconds -/
def tk (s : Nat) : Nat := rhe (val (tr s)) T
theorem val_9999 : val 4666722622711529472 = 9999 * 2 ^ T := by
  have : irung 9999 = 4666722622711529472 := by
    unfold irung; rw [T_eq]; decide +kernel
  rw [← this, val_irung 9999 (by omega)]
theorem tk_hi {s : Nat} (h : ok s = true) : tk s ≤ 9999 := by
  have h1 : tk s ≤ rhe (9999 * 2 ^ T) T := rhe_mono _ _ _ (by rw [← val_9999]; exact val_le (tr_hi h))
  have h2 : rhe (9999 * 2 ^ T) T = 9999 := by
    have := rhe_scale 9999 0 T
    rw [Nat.zero_add, rhe_zero] at this
    exact this
  omega
theorem tk_mono {s t : Nat} (h : rung s ≤ rung t) : tk s ≤ tk t := rhe_mono _ _ _ (val_le (tr_mono h))

/-- the word that RoundToEven gives of ten times s -/
def rw' (s : Nat) : Nat := D.word (sg s) (irung (tk s))
theorem round_ok {s : Nat} (h : ok s = true) : D.write ((D.read (xw s)).integral .even) = rw' s := by
  have hh := tk_hi h
  rw [integral_even _ (xw_fin h), xw_rung h, xw_sg h]
  rw [write_int _ _ (by unfold tk at hh; omega)]
  rfl
theorem tr_zero {s : Nat} (h : rung s = 0) : tr s = 0 := by unfold tr; rw [h]; decide
theorem tk_zero {s : Nat} (h : rung s = 0) : tk s = 0 := by
  unfold tk; rw [tr_zero h]
  have := rhe_scale 0 0 T
  rw [Nat.zero_add, rhe_zero, Nat.zero_mul] at this
  exact this
theorem int_ok {s : Nat} (h : ok s = true) : floatToIntVal .f64 (rw' s) .i64 = some (tk s : Int) := by
  have hh := tk_hi h
  have e : (D.read (rw' s)).toInt .zero = some (tk s : Int) := by
    by_cases hs : sg s = true
    · have h0 := tk_zero ((ok_rung h).2 hs)
      unfold rw'; rw [hs, h0]
      have : irung 0 = 0 := by unfold irung; rw [Nat.zero_mul]; decide
      rw [this]; decide
    · exact irung_toInt _ _ (by omega) (by simpa using hs)
  unfold floatToIntVal
  have e' : (FloatKind.decode .f64 (rw' s)).toInt .zero = some (tk s : Int) := e
  rw [e']
  simp only
  rw [if_pos]
  rw [show IntKind.min .i64 = -9223372036854775808 by decide, show IntKind.max .i64 = 9223372036854775807 by decide]
  omega

/-! the same by the other way: cut, and one more where the rest is more than a half -/
/-- cut -/
def qk (s : Nat) : Nat := val (tr s) / 2 ^ T
theorem cut_ok {s : Nat} (h : ok s = true) : floatToIntVal .f64 (xw s) .i64 = some (qk s : Int) := by
  have hh : qk s ≤ tk s := rhe_lo _ _
  have hh' := tk_hi h
  have e : (D.read (xw s)).toInt .zero = some (qk s : Int) := by
    by_cases hs : sg s = true
    · have h0 := tr_zero ((ok_rung h).2 hs)
      unfold xw qk; rw [hs, h0]
      rw [show val 0 = 0 by decide, Nat.zero_div]
      decide
    · rw [toInt_zero _ (xw_fin h) (by rw [xw_sg h]; simpa using hs), xw_rung h]; rfl
  unfold floatToIntVal
  have e' : (FloatKind.decode .f64 (xw s)).toInt .zero = some (qk s : Int) := e
  rw [e']
  simp only
  rw [if_pos]
  rw [show IntKind.min .i64 = -9223372036854775808 by decide, show IntKind.max .i64 = 9223372036854775807 by decide]
  omega
theorem float_of (n : Nat) (h : n < 9007199254740992) : floatOfInt .f64 (n : Int) = irung n := by
  show D.write (.number (decide ((n : Int) < 0)) (n : Int).natAbs 0) = _
  rw [show (n : Int).natAbs = n by omega, write_int _ n h, decide_eq_false (by omega)]
  rfl
/-- what is left, as a word -/
def lw (s : Nat) : Nat := (D.sub (xw s) (irung (qk s))).getD 0
theorem val_half : val half * 2 = 2 ^ T := by
  have h1 : val 4607182418800017408 = 1 * 2 ^ T := by
    have : irung 1 = 4607182418800017408 := by unfold irung; rw [T_eq]; decide +kernel
    rw [← this, val_irung 1 (by omega)]
  rw [Nat.one_mul] at h1
  rw [← h1]
  unfold val
  rw [if_neg (by decide), if_neg (by decide), show (half % 4503599627370496) = 0 by decide, show (4607182418800017408 % 4503599627370496) = 0 by decide,
    show 4607182418800017408 / 4503599627370496 - 1 = (half / 4503599627370496 - 1) + 1 by decide, Nat.pow_succ, Nat.mul_assoc]
theorem rest_ok {s : Nat} (h : ok s = true) : D.sub (xw s) (irung (qk s)) = some (lw s) ∧ isn (lw s) = false
    ∧ (decide (key half < key (lw s)) = decide (2 ^ T < 2 * (val (tr s) % 2 ^ T))) ∧ (decide (key (lw s) = key half) = (2 ^ T == 2 * (val (tr s) % 2 ^ T))) := by
  have hq : qk s ≤ 9999 := Nat.le_trans (rhe_lo _ _) (tk_hi h)
  have hi := irung_lt (qk s) (by omega)
  have ri : rung (irung (qk s)) = irung (qk s) := by unfold rung; omega
  have si : sg (irung (qk s)) = false := by unfold sg; simp; omega
  obtain ⟨sn, he, hneg⟩ := sub_fin (xw s) (irung (qk s)) (xw_fin h) (by unfold fin; rw [ri]; exact hi)
  have hv2 : sval (irung (qk s)) = ((qk s * 2 ^ T : Nat) : Int) := by
    unfold sval; rw [si, ri, val_irung _ (by omega)]; rfl
  have hv1 : sval (xw s) = (val (tr s) : Int) := by
    unfold sval; rw [xw_sg h, xw_rung h]
    by_cases hs : sg s = true
    · rw [tr_zero ((ok_rung h).2 hs), hs]; decide
    · simp [hs]
  have hdm := Nat.div_add_mod (val (tr s)) (2 ^ T)
  have hd : sval (xw s) - sval (irung (qk s)) = ((val (tr s) % 2 ^ T : Nat) : Int) := by
    rw [hv1, hv2]; unfold qk; rw [Nat.mul_comm (val (tr s) / 2 ^ T)]; omega
  rw [hd] at he hneg
  rw [show ((val (tr s) % 2 ^ T : Nat) : Int).natAbs = val (tr s) % 2 ^ T by omega] at he
  -- what is left has at most 53 binary digits
  have thinF : (val (tr s) % 2 ^ T) % 2 ^ ((val (tr s) % 2 ^ T).log2 - 52) = 0 := by
    have e : ∃ c e, c < 9007199254740992 ∧ val (tr s) = c * 2 ^ e := by
      unfold val
      split
      · exact ⟨tr s, 0, by omega, by simp⟩
      · exact ⟨_, _, by have := Nat.mod_lt (tr s) (show 0 < 4503599627370496 by decide); omega, rfl⟩
    obtain ⟨c, e, hc, he⟩ := e
    rw [he]
    by_cases hT : T ≤ e
    · have : c * 2 ^ e % 2 ^ T = 0 := Nat.mod_eq_zero_of_dvd (Nat.dvd_trans (Nat.pow_dvd_pow 2 hT) (Nat.dvd_mul_left _ _))
      rw [this]; rfl
    · rw [show T = (T - e) + e by omega, Nat.pow_add, Nat.mul_mod_mul_right]
      exact thin _ e (Nat.lt_of_le_of_lt (Nat.mod_le _ _) hc)
  have hval := val_rungV _ thinF
  have hmod : val (tr s) % 2 ^ T < 2 ^ T := Nat.mod_lt _ (Nat.two_pow_pos T)
  have hlt : rungV 0 (val (tr s) % 2 ^ T) < 9218868437227405312 := by
    refine Nat.lt_of_not_le fun hh => ?_
    have h1 := val_le hh
    rw [hval] at h1
    have h2 := lt_val_inf (val (tr s) % 2 ^ T) (Nat.lt_of_lt_of_le hmod (Nat.pow_le_pow_right (by decide) (by omega)))
    omega
  rw [Nat.min_eq_left (by rw [inf_eq]; omega)] at he
  have hlw : lw s = D.word sn (rungV 0 (val (tr s) % 2 ^ T)) := by unfold lw; rw [he]; rfl
  have hr : rung (lw s) = rungV 0 (val (tr s) % 2 ^ T) := by rw [hlw]; exact word_rung _ _ (by omega)
  have hs2 : sg (lw s) = sn := by rw [hlw]; exact word_sg _ _ (by omega)
  have hkey : key (lw s) = (rungV 0 (val (tr s) % 2 ^ T) : Int) := by
    unfold key; rw [hr, hs2]
    by_cases h0 : val (tr s) % 2 ^ T = 0
    · rw [h0, show rungV 0 0 = 0 by decide]; simp
    · have := hneg (by omega)
      rw [decide_eq_false (by omega)] at this
      rw [this]; rfl
  have hkh : key half = 4602678819172646912 := by decide
  have hvh := val_half
  refine ⟨by rw [he, hlw], ?_, ?_, ?_⟩
  · unfold isn; rw [hr]; exact decide_eq_false (by omega)
  · rw [hkey, hkh]
    apply decide_eq_decide.2
    constructor
    · intro hh
      have : val half < val (rungV 0 (val (tr s) % 2 ^ T)) := val_lt (by unfold half; omega)
      rw [hval] at this; omega
    · intro hh
      have : ¬ rungV 0 (val (tr s) % 2 ^ T) ≤ half := fun hle => by
        have := val_le hle; rw [hval] at this; omega
      unfold half at this; omega
  · rw [hkey, hkh, Bool.eq_iff_iff, decide_eq_true_iff, beq_iff_eq]
    constructor
    · intro hh
      have : rungV 0 (val (tr s) % 2 ^ T) = half := by unfold half; omega
      rw [this] at hval; omega
    · intro hh
      have h1 : val (rungV 0 (val (tr s) % 2 ^ T)) = val half := by rw [hval]; omega
      rcases Nat.lt_trichotomy (rungV 0 (val (tr s) % 2 ^ T)) half with hl | hl | hl
      · have := val_lt hl; omega
      · unfold half at hl; omega
      · have := val_lt hl; omega
/-- both ways give the same -/
theorem tk_qk (s : Nat) : tk s = qk s + (decide (2 ^ T < 2 * (val (tr s) % 2 ^ T)) || (2 ^ T == 2 * (val (tr s) % 2 ^ T) && qk s % 2 == 1)).toNat := rfl

/-! all seconds of whole ticks, by calculation -/
/-- n / 10 -/
def ofB (n : Nat) : Nat := (D.div (floatOfInt .f64 (n : Int)) ten).getD 0
/-- 0.03 -/
abbrev c03 : Nat := 4584304132692975288
/-- a number first made a numeral, then handed on -/
def force (x : Nat) (f : Nat → Bool) : Bool := Nat.rec (f 0) (fun n _ => f (n + 1)) x
theorem force_eq (x : Nat) (f : Nat → Bool) : force x f = f x := by cases x <;> rfl
/-- the rung, its place guessed and held against the number -/
def rungG (E v g : Nat) (f : Nat → Bool) : Bool :=
  force v fun v => force (if v < 2 ^ (g + 52) then g - 1 else if v < 2 ^ (g + 53) then g else g + 1) fun L =>
    decide (E ≤ L) && decide (2 ^ (L + 52) ≤ v) && decide (v < 2 ^ (L + 53)) &&
    force (v / 2 ^ L) fun q => force (2 * (v % 2 ^ L)) fun r =>
      force ((L - E) * 4503599627370496 + (q + (decide (2 ^ L < r) || (2 ^ L == r && q % 2 == 1)).toNat)) f
theorem rungV_of (E v L : Nat) (hE : E ≤ L) (h1 : 2 ^ (L + 52) ≤ v) (h2 : v < 2 ^ (L + 53)) : rungV E v = (L - E) * 4503599627370496 + rhe v L := by
  have hv : v ≠ 0 := by have := Nat.two_pow_pos (L + 52); omega
  have hl : v.log2 = L + 52 := (Nat.log2_eq_iff hv).2 ⟨h1, h2⟩
  unfold rungV
  rw [hl, show max (L + 52 - 52) E = L by omega]
theorem rungG_eq {E v g : Nat} {f : Nat → Bool} (h : rungG E v g f = true) : f (rungV E v) = true := by
  unfold rungG at h; simp only [force_eq, Bool.and_eq_true, decide_eq_true_iff] at h
  generalize (if v < 2 ^ (g + 52) then g - 1 else if v < 2 ^ (g + 53) then g else g + 1) = L at h
  obtain ⟨⟨⟨h0, h1⟩, h2⟩, h3⟩ := h
  rw [rungV_of E v L h0 h1 h2]
  exact h3
/-- the ticks of a rung -/
def tkR (r : Nat) : Nat := rhe (val (rungV 49 (5629499534213120 * val r))) T
theorem tk_tkR (s : Nat) : tk s = tkR (rung s) := rfl
def tkG (P r : Nat) (f : Nat → Bool) : Bool :=
  rungG 49 (5629499534213120 * val r) (r / 4503599627370496 + 51) fun t => force (val t) fun v => force (v / 2 ^ P) fun q => force (2 * (v % 2 ^ P)) fun r =>
  f (q + (decide (2 ^ P < r) || (2 ^ P == r && q % 2 == 1)).toNat)
theorem tkG_eq {r : Nat} {f : Nat → Bool} (h : tkG T r f = true) : f (tkR r) = true := by
  unfold tkG at h
  have h1 := rungG_eq h
  simp only [force_eq] at h1
  exact h1
def chkP (P k : Nat) : Bool := force (ofB k) fun s => force (val s) fun V =>
  decide (s ≤ 4652006429231887155) && decide (val c03 ≤ V) && (rungG 0 (V - val c03) (s / 4503599627370496 - 1) fun r1 => tkG P r1 (fun t => t == k))
    && (rungG 0 (V + val c03) (s / 4503599627370496 - 1) fun r2 => (decide (4652006429231887155 < r2 ∧ r2 < 9218868437227405312 ∧ k = 9999) || (decide (r2 ≤ 4652006429231887155) && tkG P r2 fun t => t == k)))
def chk (k : Nat) : Bool := chkP 1074 k
theorem chk_T (k : Nat) : chk k = chkP T k := rfl
def allB : Nat → (Nat → Bool) → Bool
  | 0, _ => true
  | n + 1, p => p n && allB n p
theorem allB_at {n : Nat} {p : Nat → Bool} (h : allB n p = true) : ∀ i, i < n → p i = true := by
  induction n with
  | zero => intro i hi; omega
  | succ n ih =>
    simp [allB] at h
    intro i hi
    by_cases e : i = n
    · subst e; exact h.1
    · exact ih h.2 i (by omega)

theorem tkR_mono {r r' : Nat} (h : r ≤ r') : tkR r ≤ tkR r' := rhe_mono _ _ _ (val_le (rungV_mono 49 (Nat.mul_le_mul_left _ (val_le h))))
theorem pos_word {r : Nat} (h : r < 9223372036854775808) : rung r = r ∧ sg r = false := by
  unfold rung sg; simp; omega
theorem ok_pos {r : Nat} (h : r ≤ 4652006429231887155) : ok r = true := by
  obtain ⟨h1, h2⟩ := pos_word (r := r) (by omega)
  rw [ok_iff]
  unfold isn key
  rw [h1, h2]
  simp; omega
theorem key_pos {r : Nat} (h : r < 9223372036854775808) : key r = r := by
  obtain ⟨h1, h2⟩ := pos_word h
  unfold key; rw [h1, h2]; rfl
/-- what a number's check says -/
theorem chk_says {k : Nat} (h : chk k = true) :
    D.div (floatOfInt .f64 (k : Int)) ten = some (ofB k) ∧ ofB k ≤ 4652006429231887155 ∧ tk (ofB k) = k
    ∧ (∃ o, D.sub (ofB k) c03 = some o ∧ o ≤ 4652006429231887155 ∧ tk o = k)
    ∧ (∃ o, D.add (ofB k) c03 = some o ∧ o < 9218868437227405312 ∧ (4652006429231887155 < o ∨ o ≤ 4652006429231887155 ∧ tk o = k)) := by
  rw [chk_T] at h
  unfold chkP at h
  simp only [force_eq, Bool.and_eq_true, decide_eq_true_iff] at h
  obtain ⟨⟨⟨h0, h1⟩, h2⟩, h3⟩ := h
  have g2 := tkG_eq (rungG_eq h2)
  have g3 := rungG_eq h3
  simp only [beq_iff_eq, Bool.or_eq_true, Bool.and_eq_true, decide_eq_true_iff] at g2 g3
  clear h2 h3
  have hC : val 0 < val c03 := val_lt (by decide)
  have hz0 : val 0 = 0 := rfl
  have hs : D.div (floatOfInt .f64 (k : Int)) ten = some (ofB k) := by
    unfold ofB at h1 ⊢
    cases hd : D.div (floatOfInt .f64 (k : Int)) ten with
    | none => rw [hd] at h1; exact absurd h1 (Nat.not_le.2 hC)
    | some s => rfl
  have hfc : fin c03 := by unfold fin; decide
  have vc : sval c03 = (val c03 : Int) := by
    obtain ⟨a, b⟩ := pos_word (r := c03) (by decide)
    unfold sval; rw [a, b]; rfl
  have nek : k ≠ 0 ∨ ofB k ≠ c03 := by
    by_cases hk : k = 0
    · subst hk; exact .inr (by decide +kernel)
    · exact .inl hk
  generalize ofB k = s at *
  obtain ⟨rs, ss⟩ := pos_word (r := s) (by omega)
  have hfs : fin s := by unfold fin; rw [rs]; omega
  have vs : sval s = (val s : Int) := by unfold sval; rw [rs, ss]; rfl
  have hinj : val s = val c03 → s = c03 := fun e => by
    rcases Nat.lt_trichotomy s c03 with hl | hl | hl
    · exact absurd (val_lt hl) (by rw [e]; exact Nat.lt_irrefl _)
    · exact hl
    · exact absurd (val_lt hl) (by rw [e]; exact Nat.lt_irrefl _)
  -- the rungs
  have m1 : rungV 0 (val s - val c03) ≤ s := by
    have := rungV_mono 0 (Nat.sub_le (val s) (val c03))
    rw [rungV_val] at this; exact this
  have m2 : s ≤ rungV 0 (val s + val c03) := by
    have := rungV_mono 0 (Nat.le_add_right (val s) (val c03))
    rw [rungV_val] at this; exact this
  obtain ⟨s1, he1, hn1⟩ := sub_fin s c03 hfs hfc
  obtain ⟨s2, he2, hn2⟩ := add_fin s c03 hfs hfc
  rw [vs, vc] at he1 hn1 he2 hn2
  clear vs vc
  generalize val c03 = C at *
  have hz : val s - C = 0 → rungV 0 (val s - C) = 0 := fun e => by rw [e]; rfl
  generalize val s = V at *
  have i1 : ((V : Int) - (C : Int)).natAbs = V - C := by omega
  have i2 : ((V : Int) + (C : Int)).natAbs = V + C := by omega
  rw [i1] at he1
  rw [i2] at he2
  generalize rungV 0 (V - C) = r1 at *
  generalize rungV 0 (V + C) = r2 at *
  have hr2 : r2 < 9218868437227405312 := by
    rcases g3 with h | h <;> omega
  rw [Nat.min_eq_left (by rw [inf_eq]; omega)] at he1 he2
  have p1 := pos_word (r := r1) (by omega)
  have p2 := pos_word (r := r2) (by omega)
  have one : D.sub s c03 = some r1 := by
    rw [he1]
    by_cases e : (V : Int) - (C : Int) = 0
    · exfalso
      have e0 := hz (by omega)
      rw [e0, show tkR 0 = 0 from tk_zero (s := 0) rfl] at g2
      rcases nek with h | h
      · omega
      · exact h (hinj (by omega))
    · have := hn1 e
      rw [decide_eq_false (by omega)] at this
      rw [this]; rfl
  have two : D.add s c03 = some r2 := by
    rw [he2]
    have := hn2 (by omega)
    rw [decide_eq_false (by omega)] at this
    rw [this]; rfl
  have k1 : tk r1 = k := by rw [tk_tkR, p1.1]; exact g2
  have k2 : r2 ≤ 4652006429231887155 → tk r2 = k := by
    intro hle
    rw [tk_tkR, p2.1]
    rcases g3 with h | h
    · omega
    · have hh := tkG_eq (f := fun t => t == k) h.2
      simp only [beq_iff_eq] at hh
      exact hh
  refine ⟨hs, h0, ?_, ⟨r1, one, by omega, k1⟩, ⟨r2, two, hr2, ?_⟩⟩
  · have a1 : tkR r1 ≤ tkR s := tkR_mono m1
    have a3 : tk s ≤ 9999 := tk_hi (ok_pos h0)
    rw [tk_tkR, p1.1] at k1
    rw [tk_tkR, rs] at a3 ⊢
    by_cases hle : r2 ≤ 4652006429231887155
    · have a2 : tkR s ≤ tkR r2 := tkR_mono m2
      have := k2 hle
      rw [tk_tkR, p2.1] at this
      omega
    · rcases g3 with h | h <;> omega
  · by_cases hle : r2 ≤ 4652006429231887155
    · exact .inr ⟨hle, k2 hle⟩
    · exact .inl (by omega)
theorem blk (a n b : Nat) (e : a + n = b) (h : allB n (fun i => chk (a + i)) = true) : ∀ k, a ≤ k → k < b → chk k = true := by
  intro k h1 h2
  have := allB_at h (k - a) (by omega)
  rw [show a + (k - a) = k by omega] at this
  exact this
theorem join {a b c : Nat} (h1 : ∀ k, a ≤ k → k < b → chk k = true) (h2 : ∀ k, b ≤ k → k < c → chk k = true) : ∀ k, a ≤ k → k < c → chk k = true := by
  intro k h3 h4
  by_cases h : k < b
  · exact h1 k h3 h
  · exact h2 k (by omega) h4
end Go.Proofs.Fl
/- The contracts of Ticks, of package secs and of the document, and of the sign of a float: XSecsW without what stage 6 does not call. -/
namespace Go.Proofs.Ytfekngnfjemgeaa.Secs
open Go.ChangeShapes Go.WideShapes Go.ChangeAt Go.RowKit Go.Proofs.Fl
set_option linter.unusedVariables false
set_option linter.unusedSimpArgs false

def cap (n : Int) : Int := if n < 0 then 0 else if 2147483647 < n then 2147483647 else n
theorem cap_neg {n : Int} (h : n < 0) : cap n = 0 := by unfold cap; rw [if_pos h]
theorem cap_big {n : Int} (h : 2147483647 < n) : cap n = 2147483647 := by unfold cap; rw [if_neg (by omega), if_pos h]
theorem cap_in {n : Int} (h : 0 ≤ n) (h' : n ≤ 2147483647) : cap n = n := by unfold cap; rw [if_neg (by omega), if_neg (by omega)]
theorem ret_int {k : IntKind} {a b : Int} (h : a = b) : Ending.returned (.int k a) = .returned (.int k b) := by rw [h]
theorem ret_tick {a b : Int} (h : a = b) : Ending.returned (.tuple #[.int .i64 a, .bool true]) = .returned (.tuple #[.int .i64 b, .bool true]) := by rw [h]
theorem ret_bool {a b : Bool} (h : a = b) : Ending.returned (.bool a) = .returned (.bool b) := by rw [h]
theorem ret_float {k : FloatKind} {a b : Nat} (h : a = b) : Ending.returned (.float k a) = .returned (.float k b) := by rw [h]

set_option maxHeartbeats 400000 in
theorem limit_any (n : Int) (w : World) : Calls Try.prog 146 #[.int .i64 n] w fun e w' => e = .returned (.int .i64 (cap n)) ∧ w = w' := by
  by_cases h1 : n < 0
  · go_enter Try.func146, Try.ntmps146
    go_wp2
    go_ret
    exact ⟨ret_int (cap_neg h1).symm, rfl⟩
  by_cases h2 : 2147483647 < n
  · go_enter Try.func146, Try.ntmps146
    go_wp2
    go_ret
    exact ⟨ret_int (cap_big h2).symm, rfl⟩
  · go_enter Try.func146, Try.ntmps146
    go_wp2
    go_ret
    exact ⟨ret_int (cap_in (by omega) (by omega)).symm, rfl⟩

theorem cap_any (n : Int) (w : World) : Calls Try.prog 145 #[.int .i64 n] w fun e w' => e = .returned (.int .i64 (cap n)) ∧ w = w' := by
  go_enter Try.func145, Try.ntmps145
  go_wp2_with (go_at_call 146; refine (limit_any _ _).mono ?_; rintro e w' ⟨rfl, rfl⟩)
  go_ret
  exact ⟨rfl, rfl⟩

/-! is it a number? -/
theorem o_ne_self (x : Nat) : (FloatKind.f64.format.order x x != some .eq) = isn x := by
  show (D.order x x != some .eq) = isn x
  cases h : isn x
  · have := o_eq h h
    rw [bne, this]; simp
  · rw [order_nan x x (.inl h)]; rfl
theorem isnan_any (x : Nat) (w : World) : Calls Try.prog 140 #[.float .f64 x] w fun e w' => e = .returned (.bool (isn x)) ∧ w = w' := by
  go_enter Try.func140, Try.ntmps140
  go_wp2
  go_ret
  exact ⟨ret_bool (o_ne_self x), rfl⟩

/-! seconds of ticks -/
/-- n, cut to 0 to 9999 -/
def cut (n : Int) : Nat := (if n < 0 then 0 else if 9999 < n then 9999 else n).toNat
theorem cut_le (n : Int) : cut n ≤ 9999 := by unfold cut; split <;> (try split) <;> omega
/-- that the quotients are what they are: proved by calculation elsewhere -/
def Quo : Prop := ∀ k : Nat, k ≤ 9999 → D.div (floatOfInt .f64 (k : Int)) ten = some (ofB k)
theorem quo_holds : Quo := by
  intro k hk
  have hf := float_of k (by omega)
  have hi := irung_lt k (by omega)
  obtain ⟨m, i, P, rx, -, -, -⟩ := read_fin (irung k) (by unfold fin rung; omega)
  have : ∃ s, D.div (floatOfInt .f64 (k : Int)) ten = some s := by
    rw [hf]
    unfold Ieee.Format.div
    rw [rx, show D.read ten = .number false 5629499534213120 (-49) by decide]
    unfold Ieee.Datum.quotient
    dsimp only
    rw [if_neg (by decide)]
    exact ⟨_, rfl⟩
  obtain ⟨s, hs⟩ := this
  unfold ofB
  rw [hs]
  rfl
theorem quo_at (hQ : Quo) (k : Int) (hk0 : 0 ≤ k) (hk : k ≤ 9999) : ∀ t w, (binOp .quo t (.float .f64 (floatOfInt .f64 k)) (.float .f64 4621819117588971520)).run Try.prog w = .ok (.float .f64 (ofB k.toNat)) w := by
  intro t w
  obtain ⟨n, rfl⟩ := Int.eq_ofNat_of_zero_le hk0
  exact run_float_arith w .quo t .f64 _ _ _ (hQ n (by omega))
theorem of_any (hQ : Quo) (n : Int) (w : World) : Calls Try.prog 144 #[.int .i64 n] w fun e w' => e = .returned (.float .f64 (ofB (cut n))) ∧ w = w' := by
  have hop := quo_at hQ
  clear hQ
  by_cases h1 : n < 0
  · have HC := Lib.hid (show cut n = 0 by unfold cut; rw [if_pos h1]; rfl)
    have hq := hop 0 (by omega) (by omega)
    have hcap := cap_neg h1
    clear hop
    go_enter Try.func144, Try.ntmps144
    go_wp2_with (first | (go_at_call 145; refine (cap_any _ _).mono ?_; rintro e w' ⟨rfl, rfl⟩) | simp only [hq])
    go_ret
    exact ⟨ret_float (by rw [HC.out]), rfl⟩
  by_cases h2 : 9999 < n
  · have HC := Lib.hid (show cut n = 9999 by unfold cut; rw [if_neg h1, if_pos h2]; rfl)
    have hq := hop 9999 (by omega) (by omega)
    have hcap : 9999 < cap n := by unfold cap; rw [if_neg h1]; split <;> omega
    clear hop
    go_enter Try.func144, Try.ntmps144
    go_wp2_with (first | (go_at_call 145; refine (cap_any _ _).mono ?_; rintro e w' ⟨rfl, rfl⟩) | simp only [hq])
    go_ret
    exact ⟨ret_float (by rw [HC.out]), rfl⟩
  · have HC := Lib.hid (show cut n = n.toNat by unfold cut; rw [if_neg h1, if_neg h2])
    have hq := hop n (by omega) (by omega)
    have hcap := cap_in (n := n) (by omega) (by omega)
    clear hop
    go_enter Try.func144, Try.ntmps144
    go_wp2_with (first | (go_at_call 145; refine (cap_any _ _).mono ?_; rintro e w' ⟨rfl, rfl⟩) | simp only [hq])
    go_ret
    exact ⟨ret_float (by rw [HC.out]), rfl⟩
theorem of_top : ofB (cut 9999) = 4652006429231887155 := by decide +kernel
theorem longest_any (hQ : Quo) (w : World) : Calls Try.prog 141 #[] w fun e w' => e = .returned (.float .f64 4652006429231887155) ∧ w = w' := by
  have HQ := Lib.hid hQ
  clear hQ
  go_enter Try.func141, Try.ntmps141
  go_wp2_with (go_at_call 144; refine (of_any HQ.out _ _).mono ?_; rintro e w' ⟨rfl, rfl⟩)
  go_ret
  exact ⟨ret_float of_top, rfl⟩

theorem even_call {s : Nat} (h : ok s = true) (w : World) : (callFunc 142 #[.float .f64 (xw s)]).run Try.prog w = .ok (.value (.float .f64 (rw' s))) w := by
  rw [run_callFunc_extern (e := Extern.MathFloor.toIntegral "math.RoundToEven" .even) Try.func142 (by kernel_rfl) (by kernel_rfl) (by kernel_rfl) (by kernel_rfl)]
  have hr := round_ok h
  obtain ⟨m, i, P, rx, -, -, -⟩ := read_fin (xw s) (xw_fin h)
  have e : FloatKind.decode .f64 (xw s) = .number (sg (xw s)) m i := rx
  have e2 : FloatKind.encode .f64 (Ieee.Datum.integral .even (.number (sg (xw s)) m i)) = rw' s := by rw [← hr, ← rx]; rfl
  have key : Extern.MathFloor.toIntegral "math.RoundToEven" .even #[.float .f64 (xw s)] = pure (.float .f64 (rw' s)) := by
    show Extern.MathFloor.toIntegral.match_1 (fun _ => Sem Value) (FloatKind.decode .f64 (xw s)) _ _ = _
    rw [e]
    show pure (Value.float .f64 (FloatKind.encode .f64 (Ieee.Datum.integral .even (.number (sg (xw s)) m i)))) = _
    rw [e2]
  rw [key]
  rfl
theorem bits_call (x : Nat) (w : World) : (callFunc 65 #[.float .f64 x]).run Try.prog w = .ok (.value (.int .u64 x)) w := by
  rw [run_callFunc_extern (e := Extern.MathFloatBits.float64bits) Try.func65 (by kernel_rfl) (by kernel_rfl) (by kernel_rfl) (by kernel_rfl)]
  rfl
/-! how two stand to each other, named -/
theorem ord_cases (x y : Nat) (hx : isn x = false) (hy : isn y = false) :
    (key x < key y ∧ FloatKind.f64.format.order x y = some .lt) ∨ (key x = key y ∧ FloatKind.f64.format.order x y = some .eq) ∨ (key y < key x ∧ FloatKind.f64.format.order x y = some .gt) := by
  have h : FloatKind.f64.format.order x y = some (compare (key x) (key y)) := order_key x y hx hy
  rw [h, Int.compare_eq_ite_lt]
  rcases Int.lt_trichotomy (key x) (key y) with hl | hl | hl
  · exact .inl ⟨hl, by rw [if_pos hl]⟩
  · exact .inr (.inl ⟨hl, by rw [if_neg (by omega), if_neg (by omega)]⟩)
  · exact .inr (.inr ⟨hl, by rw [if_neg (by omega), if_pos hl]⟩)
theorem ord_nan (x y : Nat) (h : isn x = true ∨ isn y = true) : FloatKind.f64.format.order x y = none := order_nan x y h
theorem key0 : key 0 = 0 := by decide
theorem keyT : key 4652006429231887155 = 4652006429231887155 := by decide
theorem isn0 : isn 0 = false := by decide
theorem isnT : isn 4652006429231887155 = false := by decide

theorem isnan_t {x : Nat} (h : isn x = true) (w : World) : Calls Try.prog 140 #[.float .f64 x] w fun e w' => e = .returned (.bool true) ∧ w = w' :=
  (isnan_any x w).mono fun _ _ ⟨a, b⟩ => ⟨by rw [a, h], b⟩
theorem isnan_f {x : Nat} (h : isn x = false) (w : World) : Calls Try.prog 140 #[.float .f64 x] w fun e w' => e = .returned (.bool false) ∧ w = w' :=
  (isnan_any x w).mono fun _ _ ⟨a, b⟩ => ⟨by rw [a, h], b⟩

/-! Ticks -/
set_option maxHeartbeats 800000 in
theorem ticks_no (hQ : Quo) {s : Nat} (h : ok s = false) (w : World) : Calls Try.prog 129 #[.float .f64 s] w fun e w' => e = .returned (.tuple #[.int .i64 0, .bool false]) ∧ w = w' := by
  have HQ := Lib.hid hQ
  clear hQ
  cases hn : isn s
  · have h0 := ord_cases s 0 hn isn0
    have hT := ord_cases s 4652006429231887155 hn isnT
    rw [key0] at h0
    rw [keyT] at hT
    have hk : key s < 0 ∨ 0 ≤ key s ∧ 4652006429231887155 < key s := by
      have : ¬ ok s = true := by rw [h]; simp
      rw [ok_iff] at this
      by_cases a : key s < 0
      · exact .inl a
      · by_cases b : 4652006429231887155 < key s
        · exact .inr ⟨by omega, b⟩
        · exact absurd ⟨hn, by omega, by omega⟩ this
    have HN := Lib.hid hn
    clear hn h
    rcases hk with hk | ⟨hk0, hk⟩
    · have ho : FloatKind.f64.format.order s 0 = some .lt := by rcases h0 with ⟨a, b⟩ | ⟨a, b⟩ | ⟨a, b⟩ <;> first | exact b | omega
      clear h0 hT
      go_enter Try.func129, Try.ntmps129
      go_wp2_with (go_at_call 140; refine (isnan_f HN.out _).mono ?_; rintro e w' ⟨rfl, rfl⟩)
      go_ret2
      exact ⟨rfl, rfl⟩
    · have ho2 : FloatKind.f64.format.order s 4652006429231887155 = some .gt := by rcases hT with ⟨a, b⟩ | ⟨a, b⟩ | ⟨a, b⟩ <;> first | exact b | omega
      clear hT
      rcases h0 with ⟨a, ho⟩ | ⟨a, ho⟩ | ⟨a, ho⟩
      · omega
      all_goals
        clear a
        go_enter Try.func129, Try.ntmps129
        go_wp2_with (first | (go_at_call 140; refine (isnan_f HN.out _).mono ?_; rintro e w' ⟨rfl, rfl⟩) | (go_at_call 141; refine (longest_any HQ.out _).mono ?_; rintro e w' ⟨rfl, rfl⟩))
        go_ret2
        exact ⟨rfl, rfl⟩
  · have HN := Lib.hid hn
    clear hn h
    go_enter Try.func129, Try.ntmps129
    go_wp2_with (go_at_call 140; refine (isnan_t HN.out _).mono ?_; rintro e w' ⟨rfl, rfl⟩)
    go_ret2
    exact ⟨rfl, rfl⟩
set_option maxHeartbeats 800000 in
theorem ticks_yes (hQ : Quo) {s : Nat} (h : ok s = true) (w : World) : Calls Try.prog 129 #[.float .f64 s] w fun e w' => e = .returned (.tuple #[.int .i64 (tk s), .bool true]) ∧ w = w' := by
  have HQ := Lib.hid hQ
  clear hQ
  obtain ⟨hn, hlo, hhi⟩ := (ok_iff s).1 h
  have h0 := ord_cases s 0 hn isn0
  have hT := ord_cases s 4652006429231887155 hn isnT
  rw [key0] at h0
  rw [keyT] at hT
  have HN := Lib.hid hn
  have hm : ∀ t w, (binOp .mul t (.float .f64 4621819117588971520) (.float .f64 s)).run Try.prog w = .ok (.float .f64 (xw s)) w := fun t w => run_float_arith w .mul t .f64 _ _ _ (mul_ok h).1
  have he := even_call h
  have hc : ∀ w, (convert 37 3 (.float .f64 (rw' s))).run Try.prog w = .ok (.int .i64 (tk s)) w := fun w => run_convert_float_int w 37 3 .f64 .i64 _ _ (by rw [Try.underlying37]; rfl) Try.underlying3 (int_ok h)
  clear hn h
  rcases h0 with ⟨a, ho⟩ | ⟨a, ho⟩ | ⟨a, ho⟩
  · omega
  all_goals
    rcases hT with ⟨b, ho2⟩ | ⟨b, ho2⟩ | ⟨b, ho2⟩
    rotate_right
    · omega
    all_goals
      clear a b hlo hhi
      go_enter Try.func129, Try.ntmps129
      go_wp2_with (first | (go_at_call 140; refine (isnan_f HN.out _).mono ?_; rintro e w' ⟨rfl, rfl⟩) | (go_at_call 141; refine (longest_any HQ.out _).mono ?_; rintro e w' ⟨rfl, rfl⟩) | simp only [hm, he, hc])
      go_ret2
      exact ⟨rfl, rfl⟩

set_option maxHeartbeats 800000 in
theorem rticks_no {s : Nat} (h : ok s = false) (w : World) : Calls Try.prog 139 #[.float .f64 s] w fun e w' => e = .returned (.tuple #[.int .i64 0, .bool false]) ∧ w = w' := by
  cases hn : isn s
  · have h0 := ord_cases s 0 hn isn0
    have hT := ord_cases s 4652006429231887155 hn isnT
    rw [key0] at h0
    rw [keyT] at hT
    have hk : key s < 0 ∨ 0 ≤ key s ∧ 4652006429231887155 < key s := by
      have : ¬ ok s = true := by rw [h]; simp
      rw [ok_iff] at this
      by_cases a : key s < 0
      · exact .inl a
      · by_cases b : 4652006429231887155 < key s
        · exact .inr ⟨by omega, b⟩
        · exact absurd ⟨hn, by omega, by omega⟩ this
    clear hn h
    rcases hk with hk | ⟨hk0, hk⟩
    · have ho : FloatKind.f64.format.order s 0 = some .lt := by rcases h0 with ⟨a, b⟩ | ⟨a, b⟩ | ⟨a, b⟩ <;> first | exact b | omega
      clear h0 hT
      go_enter Try.func139, Try.ntmps139
      go_wp2
      go_ret2
      exact ⟨rfl, rfl⟩
    · have ho2 : FloatKind.f64.format.order s 4652006429231887155 = some .gt := by rcases hT with ⟨a, b⟩ | ⟨a, b⟩ | ⟨a, b⟩ <;> first | exact b | omega
      clear hT
      rcases h0 with ⟨a, ho⟩ | ⟨a, ho⟩ | ⟨a, ho⟩
      · omega
      all_goals
        clear a
        go_enter Try.func139, Try.ntmps139
        go_wp2
        go_ret2
        exact ⟨rfl, rfl⟩
  · have ho := ord_nan s 0 (.inl hn)
    have ho2 := ord_nan s 4652006429231887155 (.inl hn)
    clear hn h
    go_enter Try.func139, Try.ntmps139
    go_wp2
    go_ret2
    exact ⟨rfl, rfl⟩
theorem b00 (q : Nat) : q + (false || (false && q % 2 == 1)).toNat = q := rfl
theorem b01 (q : Nat) (h : q % 2 = 1) : q + (false || (true && q % 2 == 1)).toNat = q + 1 := by rw [h]; rfl
theorem b02 (q : Nat) (h : q % 2 = 0) : q + (false || (true && q % 2 == 1)).toNat = q := by rw [h]; rfl
theorem b1 (q : Nat) (b : Bool) : q + (true || b).toNat = q + 1 := rfl
theorem cast1 (q : Nat) : (q : Int) + 1 = ((q + 1 : Nat) : Int) := rfl
theorem isnH : isn half = false := by decide
set_option maxHeartbeats 2000000 in
theorem rticks_yes {s : Nat} (h : ok s = true) (w : World) : Calls Try.prog 139 #[.float .f64 s] w fun e w' => e = .returned (.tuple #[.int .i64 (tk s), .bool true]) ∧ w = w' := by
  obtain ⟨hn, hlo, hhi⟩ := (ok_iff s).1 h
  have h0 := ord_cases s 0 hn isn0
  have hT := ord_cases s 4652006429231887155 hn isnT
  rw [key0] at h0
  rw [keyT] at hT
  obtain ⟨hsub, hln, hgt, heq⟩ := rest_ok h
  have hH := ord_cases (lw s) half hln isnH
  have hq : qk s ≤ 9999 := Nat.le_trans (rhe_lo _ _) (tk_hi h)
  have htk := tk_qk s
  rw [← hgt, ← heq] at htk
  have hm : ∀ t w, (binOp .mul t (.float .f64 s) (.float .f64 4621819117588971520)).run Try.prog w = .ok (.float .f64 (xw s)) w := fun t w => run_float_arith w .mul t .f64 _ _ _ (mul_ok h).2
  have hc : ∀ w, (convert 37 3 (.float .f64 (xw s))).run Try.prog w = .ok (.int .i64 (qk s)) w := fun w => run_convert_float_int w 37 3 .f64 .i64 _ _ (by rw [Try.underlying37]; rfl) Try.underlying3 (cut_ok h)
  have hs : ∀ t w, (binOp .sub t (.float .f64 (xw s)) (.float .f64 (irung (qk s)))).run Try.prog w = .ok (.float .f64 (lw s)) w := fun t w => run_float_arith w .sub t .f64 _ _ _ hsub
  have hf := float_of (qk s) (by omega)
  have hq0 : (0 : Int) ≤ (qk s : Int) := by omega
  have hq1 : (qk s : Int) ≤ 9999 := by omega
  have HT := Lib.hid (show tk s = qk s + (decide (key half < key (lw s)) || (decide (key (lw s) = key half) && qk s % 2 == 1)).toNat from htk)
  clear htk hgt heq hsub hln hn h hq
  have par : qk s % 2 = 1 ∨ qk s % 2 = 0 := by omega
  rcases h0 with ⟨a, ho⟩ | ⟨a, ho⟩ | ⟨a, ho⟩
  · omega
  all_goals
    rcases hT with ⟨b, ho2⟩ | ⟨b, ho2⟩ | ⟨b, ho2⟩
    rotate_right
    · omega
    all_goals
      clear a b hlo hhi
      rcases hH with ⟨c, ho3⟩ | ⟨c, ho3⟩ | ⟨c, ho3⟩
      · have HE := Lib.hid (show tk s = qk s from by rw [HT.out, decide_eq_false (by omega), decide_eq_false (by omega)]; exact b00 _)
        clear HT par c
        go_enter Try.func139, Try.ntmps139
        go_wp2_with (simp only [hm, hc, hs, hf])
        go_ret2
        exact ⟨ret_tick (by rw [HE.out]), rfl⟩
      · rcases par with p | p
        · have HE := Lib.hid (show tk s = qk s + 1 from by rw [HT.out, decide_eq_false (by omega), decide_eq_true c]; exact b01 _ p)
          have p' : (qk s : Int) % 2 = 1 := by omega
          clear HT p c
          go_enter Try.func139, Try.ntmps139
          go_wp2_with (simp only [hm, hc, hs, hf])
          go_ret2
          exact ⟨ret_tick (by rw [HE.out]; exact cast1 _), rfl⟩
        · have HE := Lib.hid (show tk s = qk s from by rw [HT.out, decide_eq_false (by omega), decide_eq_true c]; exact b02 _ p)
          have p' : (qk s : Int) % 2 = 0 := by omega
          clear HT p c
          go_enter Try.func139, Try.ntmps139
          go_wp2_with (simp only [hm, hc, hs, hf])
          go_ret2
          exact ⟨ret_tick (by rw [HE.out]), rfl⟩
      · have HE := Lib.hid (show tk s = qk s + 1 from by rw [HT.out, decide_eq_true c]; exact b1 _ _)
        clear HT par c
        go_enter Try.func139, Try.ntmps139
        go_wp2_with (simp only [hm, hc, hs, hf])
        go_ret2
        exact ⟨ret_tick (by rw [HE.out]; exact cast1 _), rfl⟩
end Go.Proofs.Ytfekngnfjemgeaa.Secs
/- The contracts of mayLevel, maySeconds, of the document's Level and Seconds, of Signbit and of a float's bits. -/
namespace Go.Proofs.Ytfekngnfjemgeaa.MayF
open Go.ChangeShapes Go.WideShapes Go.ChangeAt Go.RowKit Go.Proofs.Fl
open Secs
set_option linter.unusedVariables false
set_option linter.unusedSimpArgs false

/-- A float's sign, as Signbit asks for it. -/
def neg (x : Nat) : Bool := decide (wrap64 (x : Int) < 0)
theorem signbit_any (x : Nat) (w : World) : Calls Try.prog 130 #[.float .f64 x] w fun e w' => e = .returned (.bool (neg x)) ∧ w = w' := by
  have hb := bits_call x
  go_enter Try.func130, Try.ntmps130
  go_wp2_with (simp only [hb])
  go_ret
  exact ⟨rfl, rfl⟩
theorem bits_any (x : Nat) (w : World) : Calls Try.prog 39 #[.float .f64 x] w fun e w' => e = .returned (.int .u64 x) ∧ w = w' := by
  have hb := bits_call x
  go_enter Try.func39, Try.ntmps39
  go_wp2_with (simp only [hb])
  go_ret
  exact ⟨rfl, rfl⟩
/-- A level. -/
def level (x : Nat) : Bool := !isn x && decide (0 < key x) && decide (key x ≤ 4696837146684686336)
theorem keyM : key 4696837146684686336 = 4696837146684686336 := by decide
theorem isnM : isn 4696837146684686336 = false := by decide
theorem level_any (x : Nat) (w : World) : Calls Try.prog 107 #[.float .f64 x] w fun e w' => e = .returned (.bool (level x)) ∧ w = w' := by
  cases hn : isn x
  · have h0 := ord_cases x 0 hn isn0
    have hT := ord_cases x 4696837146684686336 hn isnM
    rw [key0] at h0
    rw [keyM] at hT
    have HN := Lib.hid hn
    clear hn
    rcases h0 with ⟨a, ho⟩ | ⟨a, ho⟩ | ⟨a, ho⟩
    all_goals rcases hT with ⟨b, ho2⟩ | ⟨b, ho2⟩ | ⟨b, ho2⟩
    all_goals
      have HA := Lib.hid a
      have HB := Lib.hid b
      clear a b
      go_enter Try.func107, Try.ntmps107
      go_wp2
      go_ret
      have a := HA.out
      have b := HB.out
      exact ⟨ret_bool (by unfold level; rw [HN.out]; first | (rw [decide_eq_true (by omega), decide_eq_true (by omega)]; rfl) | (rw [decide_eq_false (by omega)]; simp) | (rw [decide_eq_false (p := key x ≤ _) (by omega)]; simp)), rfl⟩
  · have ho := ord_nan x 0 (.inl hn)
    have ho2 := ord_nan x 4696837146684686336 (.inl hn)
    have HN := Lib.hid hn
    clear hn
    go_enter Try.func107, Try.ntmps107
    go_wp2
    go_ret
    exact ⟨ret_bool (by unfold level; rw [HN.out]; rfl), rfl⟩
theorem rlevel_any (x : Nat) (w : World) : Calls Try.prog 124 #[.float .f64 x] w fun e w' => e = .returned (.bool (level x)) ∧ w = w' := by
  cases hn : isn x
  · have h0 := ord_cases x 0 hn isn0
    have hT := ord_cases x 4696837146684686336 hn isnM
    rw [key0] at h0
    rw [keyM] at hT
    have HN := Lib.hid hn
    clear hn
    rcases h0 with ⟨a, ho⟩ | ⟨a, ho⟩ | ⟨a, ho⟩
    all_goals rcases hT with ⟨b, ho2⟩ | ⟨b, ho2⟩ | ⟨b, ho2⟩
    all_goals
      have HA := Lib.hid a
      have HB := Lib.hid b
      clear a b
      go_enter Try.func124, Try.ntmps124
      go_wp2
      go_ret
      have a := HA.out
      have b := HB.out
      exact ⟨ret_bool (by unfold level; rw [HN.out]; first | (rw [decide_eq_true (by omega), decide_eq_true (by omega)]; rfl) | (rw [decide_eq_false (by omega)]; simp) | (rw [decide_eq_false (p := key x ≤ _) (by omega)]; simp)), rfl⟩
  · have ho := ord_nan x 0 (.inl hn)
    have ho2 := ord_nan x 4696837146684686336 (.inl hn)
    have HN := Lib.hid hn
    clear hn
    go_enter Try.func124, Try.ntmps124
    go_wp2
    go_ret
    exact ⟨ret_bool (by unfold level; rw [HN.out]; rfl), rfl⟩
/-- Seconds. -/
def span (x : Nat) : Bool := ok x && !neg x
theorem span_any (x : Nat) (w : World) : Calls Try.prog 108 #[.float .f64 x] w fun e w' => e = .returned (.bool (span x)) ∧ w = w' := by
  cases hk : ok x
  · have HK := Lib.hid hk
    clear hk
    go_enter Try.func108, Try.ntmps108
    go_wp2_with (go_at_call 129; refine (ticks_no quo_holds HK.out _).mono ?_; rintro e w' ⟨rfl, rfl⟩)
    go_ret
    exact ⟨ret_bool (by unfold span; rw [HK.out, Bool.false_and]), rfl⟩
  · have HK := Lib.hid hk
    clear hk
    go_enter Try.func108, Try.ntmps108
    go_wp2_with (first | (go_at_call 129; refine (ticks_yes quo_holds HK.out _).mono ?_; rintro e w' ⟨rfl, rfl⟩) | (go_at_call 130; refine (signbit_any _ _).mono ?_; rintro e w' ⟨rfl, rfl⟩))
    go_ret
    exact ⟨ret_bool (by unfold span; rw [HK.out, Bool.true_and]), rfl⟩
theorem rspan_any (x : Nat) (w : World) : Calls Try.prog 125 #[.float .f64 x] w fun e w' => e = .returned (.bool (span x)) ∧ w = w' := by
  cases hk : ok x
  · have HK := Lib.hid hk
    clear hk
    go_enter Try.func125, Try.ntmps125
    go_wp2_with (go_at_call 139; refine (rticks_no HK.out _).mono ?_; rintro e w' ⟨rfl, rfl⟩)
    go_ret
    exact ⟨ret_bool (by unfold span; rw [HK.out, Bool.false_and]), rfl⟩
  · have HK := Lib.hid hk
    clear hk
    go_enter Try.func125, Try.ntmps125
    go_wp2_with (first | (go_at_call 139; refine (rticks_yes HK.out _).mono ?_; rintro e w' ⟨rfl, rfl⟩) | (go_at_call 130; refine (signbit_any _ _).mono ?_; rintro e w' ⟨rfl, rfl⟩))
    go_ret
    exact ⟨ret_bool (by unfold span; rw [HK.out, Bool.true_and]), rfl⟩
end Go.Proofs.Ytfekngnfjemgeaa.MayF
/- The contracts of table.mayPhase, mayRow, mayGroup, mayDetector, mayRail, mayBus and of the document's phase, detector and rail: is a part of a table within its ranges? -/
namespace Go.Proofs.Ytfekngnfjemgeaa.May
open Go.ChangeShapes Go.WideShapes Go.ChangeAt Go.RowKit
open Tab MayF
set_option linter.unusedVariables false
set_option linter.unusedSimpArgs false

def Ph.may (p : Ph) : Bool := allIn 9999 [p.min, p.gap, p.max, p.top, p.step, p.yellow, p.red, p.walk, p.blinks] && allIn 3 [p.recall]
def rowMay (l : List Int) : Bool := decide (l.length ≤ 8) && allIn 7 l
def groupMay (g : List Int × List Int) : Bool := rowMay g.1 && rowMay g.2
def Det.may (d : Det) : Bool := allIn 7 [d.phase] && (level d.on && (level d.off && (span d.delay && (span d.extend && allIn 9999 [d.maxOn, d.maxOff]))))
def Rl.may (r : Rl) : Bool := allIn 255 [r.bars, r.clear, r.dwell, r.exit] && (allIn 9999 [r.delay, r.green, r.foot, r.hold, r.stay, r.most] && allIn 2147483647 [r.limit])
def Bs.may (b : Bs) : Bool := allIn 255 [b.set] && allIn 9999 [b.lock]

theorem row_new (w : World) (t : TypeId) (l : List Int) (n : Nat) (hn : l.length = n) (hm : n ≤ maxLen) (k : Nat) (hk : w.heap.size = k) : IntRow (w.alloc (.cells (l.map I).toArray t)) ⟨some ⟨k, 0, none⟩, n⟩ l := by
  subst hn hk
  refine .inr ⟨_, rfl, Nat.le_refl _, hm, fun i v hv j u hu => ?_⟩
  cases j with
  | zero =>
    obtain rfl := Option.some.inj hu
    rw [Nat.mul_one, add_two, Nat.add_zero, Addr.add_mid, Nat.zero_add]
    rw [cell_of_row _ _ _ _ _ _ (heap_alloc_new w _)]
    simp [hv]
  | succ j => cases hu

set_option maxHeartbeats 1000000 in
theorem mayPhase_any (p : Ph) (w : World) :
    Calls Try.prog 67 #[.agg (Ph.cells p).toArray] w fun e w' => e = .returned (.bool (Ph.may p)) ∧ Below w.heap.size w w' := by
  obtain ⟨on, min, gap, max, top, step, yellow, red, walk, blinks, recall, lock, rest⟩ := p
  show Calls Try.prog 67 #[.agg #[.bool on, I min, I gap, I max, I top, I step, I yellow, I red, I walk, I blinks, I recall, .bool lock, .bool rest]] w _
  go_enter Try.func67, Try.ntmps67
  go_wp2_with fail
  refine (within_any 9999 _ _ [min, gap, max, top, step, yellow, red, walk, blinks] _ (row_new _ _ [min, gap, max, top, step, yellow, red, walk, blinks] 9 rfl (by decide) _ (by simp))).mono ?_
  rintro e w' ⟨rfl, rfl⟩
  generalize hb1 : allIn 9999 [min, gap, max, top, step, yellow, red, walk, blinks] = b1
  have HB1 := Lib.hid hb1
  clear hb1
  cases b1
  · go_wp2
    go_ret
    exact ⟨ret_bool (by unfold Ph.may; simp only [HB1.out, Bool.true_and, Bool.false_and, Bool.and_true, Bool.and_false]), (by repeat' first | exact Below.refl _ _ | (refine Below.alloc ?_ ?_ _) | (simp; done) | (simp; omega))⟩
  go_wp2_with fail
  refine (within_any 3 _ _ [recall] _ (row_new _ _ [recall] 1 rfl (by decide) _ (by simp))).mono ?_
  rintro e w' ⟨rfl, rfl⟩
  generalize hb2 : allIn 3 [recall] = b2
  have HB2 := Lib.hid hb2
  clear hb2
  go_wp2
  go_ret
  exact ⟨ret_bool (by unfold Ph.may; simp only [HB1.out, HB2.out, Bool.true_and, Bool.false_and, Bool.and_true, Bool.and_false]), (by repeat' first | exact Below.refl _ _ | (refine Below.alloc ?_ ?_ _) | (simp; done) | (simp; omega))⟩
set_option maxHeartbeats 1000000 in
theorem rphase_any (p : Ph) (w : World) :
    Calls Try.prog 94 #[.agg (Ph.cells p).toArray] w fun e w' => e = .returned (.bool (Ph.may p)) ∧ Below w.heap.size w w' := by
  obtain ⟨on, min, gap, max, top, step, yellow, red, walk, blinks, recall, lock, rest⟩ := p
  show Calls Try.prog 94 #[.agg #[.bool on, I min, I gap, I max, I top, I step, I yellow, I red, I walk, I blinks, I recall, .bool lock, .bool rest]] w _
  go_enter Try.func94, Try.ntmps94
  go_wp2_with fail
  refine (times_any _ _ [min, gap, max, top, step, yellow, red, walk, blinks] _ (row_new _ _ [min, gap, max, top, step, yellow, red, walk, blinks] 9 rfl (by decide) _ (by simp))).mono ?_
  rintro e w' ⟨rfl, rfl⟩
  generalize hb1 : allIn 9999 [min, gap, max, top, step, yellow, red, walk, blinks] = b1
  have HB1 := Lib.hid hb1
  clear hb1
  cases b1
  · go_wp2
    go_ret
    exact ⟨ret_bool (by unfold Ph.may; simp only [HB1.out, Bool.true_and, Bool.false_and, Bool.and_true, Bool.and_false]), (by repeat' first | exact Below.refl _ _ | (refine Below.alloc ?_ ?_ _) | (simp; done) | (simp; omega))⟩
  go_wp2_with fail
  refine (upto_any 3 _ _ [recall] _ (row_new _ _ [recall] 1 rfl (by decide) _ (by simp))).mono ?_
  rintro e w' ⟨rfl, rfl⟩
  generalize hb2 : allIn 3 [recall] = b2
  have HB2 := Lib.hid hb2
  clear hb2
  go_wp2
  go_ret
  exact ⟨ret_bool (by unfold Ph.may; simp only [HB1.out, HB2.out, Bool.true_and, Bool.false_and, Bool.and_true, Bool.and_false]), (by repeat' first | exact Below.refl _ _ | (refine Below.alloc ?_ ?_ _) | (simp; done) | (simp; omega))⟩
set_option maxHeartbeats 1000000 in
theorem mayDetector_any (d : Det) (w : World) :
    Calls Try.prog 72 #[.agg (Det.cells d).toArray] w fun e w' => e = .returned (.bool (Det.may d)) ∧ Below w.heap.size w w' := by
  obtain ⟨phase, on, off, delay, extend, maxOn, maxOff⟩ := d
  show Calls Try.prog 72 #[.agg #[I phase, F on, F off, F delay, F extend, I maxOn, I maxOff]] w _
  go_enter Try.func72, Try.ntmps72
  go_wp2_with fail
  refine (within_any 7 _ _ [phase] _ (row_new _ _ [phase] 1 rfl (by decide) _ (by simp))).mono ?_
  rintro e w' ⟨rfl, rfl⟩
  generalize hb1 : allIn 7 [phase] = b1
  have HB1 := Lib.hid hb1
  clear hb1
  cases b1
  · go_wp2
    go_ret
    exact ⟨ret_bool (by unfold Det.may; simp only [HB1.out, Bool.true_and, Bool.false_and, Bool.and_true, Bool.and_false]), (by repeat' first | exact Below.refl _ _ | (refine Below.alloc ?_ ?_ _) | (simp; done) | (simp; omega))⟩
  go_wp2_with fail
  refine (level_any on _).mono ?_
  rintro e w' ⟨rfl, rfl⟩
  generalize hb2 : level on = b2
  have HB2 := Lib.hid hb2
  clear hb2
  cases b2
  · go_wp2
    go_ret
    exact ⟨ret_bool (by unfold Det.may; simp only [HB1.out, HB2.out, Bool.true_and, Bool.false_and, Bool.and_true, Bool.and_false]), (by repeat' first | exact Below.refl _ _ | (refine Below.alloc ?_ ?_ _) | (simp; done) | (simp; omega))⟩
  go_wp2_with fail
  refine (level_any off _).mono ?_
  rintro e w' ⟨rfl, rfl⟩
  generalize hb3 : level off = b3
  have HB3 := Lib.hid hb3
  clear hb3
  cases b3
  · go_wp2
    go_ret
    exact ⟨ret_bool (by unfold Det.may; simp only [HB1.out, HB2.out, HB3.out, Bool.true_and, Bool.false_and, Bool.and_true, Bool.and_false]), (by repeat' first | exact Below.refl _ _ | (refine Below.alloc ?_ ?_ _) | (simp; done) | (simp; omega))⟩
  go_wp2_with fail
  refine (span_any delay _).mono ?_
  rintro e w' ⟨rfl, rfl⟩
  generalize hb4 : span delay = b4
  have HB4 := Lib.hid hb4
  clear hb4
  cases b4
  · go_wp2
    go_ret
    exact ⟨ret_bool (by unfold Det.may; simp only [HB1.out, HB2.out, HB3.out, HB4.out, Bool.true_and, Bool.false_and, Bool.and_true, Bool.and_false]), (by repeat' first | exact Below.refl _ _ | (refine Below.alloc ?_ ?_ _) | (simp; done) | (simp; omega))⟩
  go_wp2_with fail
  refine (span_any extend _).mono ?_
  rintro e w' ⟨rfl, rfl⟩
  generalize hb5 : span extend = b5
  have HB5 := Lib.hid hb5
  clear hb5
  cases b5
  · go_wp2
    go_ret
    exact ⟨ret_bool (by unfold Det.may; simp only [HB1.out, HB2.out, HB3.out, HB4.out, HB5.out, Bool.true_and, Bool.false_and, Bool.and_true, Bool.and_false]), (by repeat' first | exact Below.refl _ _ | (refine Below.alloc ?_ ?_ _) | (simp; done) | (simp; omega))⟩
  go_wp2_with fail
  refine (within_any 9999 _ _ [maxOn, maxOff] _ (row_new _ _ [maxOn, maxOff] 2 rfl (by decide) _ (by simp))).mono ?_
  rintro e w' ⟨rfl, rfl⟩
  generalize hb6 : allIn 9999 [maxOn, maxOff] = b6
  have HB6 := Lib.hid hb6
  clear hb6
  go_wp2
  go_ret
  exact ⟨ret_bool (by unfold Det.may; simp only [HB1.out, HB2.out, HB3.out, HB4.out, HB5.out, HB6.out, Bool.true_and, Bool.false_and, Bool.and_true, Bool.and_false]), (by repeat' first | exact Below.refl _ _ | (refine Below.alloc ?_ ?_ _) | (simp; done) | (simp; omega))⟩
set_option maxHeartbeats 1000000 in
theorem rdetector_any (d : Det) (w : World) :
    Calls Try.prog 95 #[.agg (Det.cells d).toArray] w fun e w' => e = .returned (.bool (Det.may d)) ∧ Below w.heap.size w w' := by
  obtain ⟨phase, on, off, delay, extend, maxOn, maxOff⟩ := d
  show Calls Try.prog 95 #[.agg #[I phase, F on, F off, F delay, F extend, I maxOn, I maxOff]] w _
  go_enter Try.func95, Try.ntmps95
  go_wp2_with fail
  refine (upto_any 7 _ _ [phase] _ (row_new _ _ [phase] 1 rfl (by decide) _ (by simp))).mono ?_
  rintro e w' ⟨rfl, rfl⟩
  generalize hb1 : allIn 7 [phase] = b1
  have HB1 := Lib.hid hb1
  clear hb1
  cases b1
  · go_wp2
    go_ret
    exact ⟨ret_bool (by unfold Det.may; simp only [HB1.out, Bool.true_and, Bool.false_and, Bool.and_true, Bool.and_false]), (by repeat' first | exact Below.refl _ _ | (refine Below.alloc ?_ ?_ _) | (simp; done) | (simp; omega))⟩
  go_wp2_with fail
  refine (rlevel_any on _).mono ?_
  rintro e w' ⟨rfl, rfl⟩
  generalize hb2 : level on = b2
  have HB2 := Lib.hid hb2
  clear hb2
  cases b2
  · go_wp2
    go_ret
    exact ⟨ret_bool (by unfold Det.may; simp only [HB1.out, HB2.out, Bool.true_and, Bool.false_and, Bool.and_true, Bool.and_false]), (by repeat' first | exact Below.refl _ _ | (refine Below.alloc ?_ ?_ _) | (simp; done) | (simp; omega))⟩
  go_wp2_with fail
  refine (rlevel_any off _).mono ?_
  rintro e w' ⟨rfl, rfl⟩
  generalize hb3 : level off = b3
  have HB3 := Lib.hid hb3
  clear hb3
  cases b3
  · go_wp2
    go_ret
    exact ⟨ret_bool (by unfold Det.may; simp only [HB1.out, HB2.out, HB3.out, Bool.true_and, Bool.false_and, Bool.and_true, Bool.and_false]), (by repeat' first | exact Below.refl _ _ | (refine Below.alloc ?_ ?_ _) | (simp; done) | (simp; omega))⟩
  go_wp2_with fail
  refine (rspan_any delay _).mono ?_
  rintro e w' ⟨rfl, rfl⟩
  generalize hb4 : span delay = b4
  have HB4 := Lib.hid hb4
  clear hb4
  cases b4
  · go_wp2
    go_ret
    exact ⟨ret_bool (by unfold Det.may; simp only [HB1.out, HB2.out, HB3.out, HB4.out, Bool.true_and, Bool.false_and, Bool.and_true, Bool.and_false]), (by repeat' first | exact Below.refl _ _ | (refine Below.alloc ?_ ?_ _) | (simp; done) | (simp; omega))⟩
  go_wp2_with fail
  refine (rspan_any extend _).mono ?_
  rintro e w' ⟨rfl, rfl⟩
  generalize hb5 : span extend = b5
  have HB5 := Lib.hid hb5
  clear hb5
  cases b5
  · go_wp2
    go_ret
    exact ⟨ret_bool (by unfold Det.may; simp only [HB1.out, HB2.out, HB3.out, HB4.out, HB5.out, Bool.true_and, Bool.false_and, Bool.and_true, Bool.and_false]), (by repeat' first | exact Below.refl _ _ | (refine Below.alloc ?_ ?_ _) | (simp; done) | (simp; omega))⟩
  go_wp2_with fail
  refine (times_any _ _ [maxOn, maxOff] _ (row_new _ _ [maxOn, maxOff] 2 rfl (by decide) _ (by simp))).mono ?_
  rintro e w' ⟨rfl, rfl⟩
  generalize hb6 : allIn 9999 [maxOn, maxOff] = b6
  have HB6 := Lib.hid hb6
  clear hb6
  go_wp2
  go_ret
  exact ⟨ret_bool (by unfold Det.may; simp only [HB1.out, HB2.out, HB3.out, HB4.out, HB5.out, HB6.out, Bool.true_and, Bool.false_and, Bool.and_true, Bool.and_false]), (by repeat' first | exact Below.refl _ _ | (refine Below.alloc ?_ ?_ _) | (simp; done) | (simp; omega))⟩
set_option maxHeartbeats 1000000 in
theorem mayRail_any (r : Rl) (w : World) :
    Calls Try.prog 74 #[.agg (Rl.cells r).toArray] w fun e w' => e = .returned (.bool (Rl.may r)) ∧ Below w.heap.size w w' := by
  obtain ⟨bars, clear, dwell, exit, delay, green, foot, hold, stay, most, limit⟩ := r
  show Calls Try.prog 74 #[.agg #[I bars, I clear, I dwell, I exit, I delay, I green, I foot, I hold, I stay, I most, I limit]] w _
  go_enter Try.func74, Try.ntmps74
  go_wp2_with fail
  refine (within_any 255 _ _ [bars, clear, dwell, exit] _ (row_new _ _ [bars, clear, dwell, exit] 4 rfl (by decide) _ (by simp))).mono ?_
  rintro e w' ⟨rfl, rfl⟩
  generalize hb1 : allIn 255 [bars, clear, dwell, exit] = b1
  have HB1 := Lib.hid hb1
  clear hb1
  cases b1
  · go_wp2
    go_ret
    exact ⟨ret_bool (by unfold Rl.may; simp only [HB1.out, Bool.true_and, Bool.false_and, Bool.and_true, Bool.and_false]), (by repeat' first | exact Below.refl _ _ | (refine Below.alloc ?_ ?_ _) | (simp; done) | (simp; omega))⟩
  go_wp2_with fail
  refine (within_any 9999 _ _ [delay, green, foot, hold, stay, most] _ (row_new _ _ [delay, green, foot, hold, stay, most] 6 rfl (by decide) _ (by simp))).mono ?_
  rintro e w' ⟨rfl, rfl⟩
  generalize hb2 : allIn 9999 [delay, green, foot, hold, stay, most] = b2
  have HB2 := Lib.hid hb2
  clear hb2
  cases b2
  · go_wp2
    go_ret
    exact ⟨ret_bool (by unfold Rl.may; simp only [HB1.out, HB2.out, Bool.true_and, Bool.false_and, Bool.and_true, Bool.and_false]), (by repeat' first | exact Below.refl _ _ | (refine Below.alloc ?_ ?_ _) | (simp; done) | (simp; omega))⟩
  go_wp2_with fail
  refine (within_any 2147483647 _ _ [limit] _ (row_new _ _ [limit] 1 rfl (by decide) _ (by simp))).mono ?_
  rintro e w' ⟨rfl, rfl⟩
  generalize hb3 : allIn 2147483647 [limit] = b3
  have HB3 := Lib.hid hb3
  clear hb3
  go_wp2
  go_ret
  exact ⟨ret_bool (by unfold Rl.may; simp only [HB1.out, HB2.out, HB3.out, Bool.true_and, Bool.false_and, Bool.and_true, Bool.and_false]), (by repeat' first | exact Below.refl _ _ | (refine Below.alloc ?_ ?_ _) | (simp; done) | (simp; omega))⟩
set_option maxHeartbeats 1000000 in
theorem rrail_any (r : Rl) (w : World) :
    Calls Try.prog 96 #[.agg (Rl.cells r).toArray] w fun e w' => e = .returned (.bool (Rl.may r)) ∧ Below w.heap.size w w' := by
  obtain ⟨bars, clear, dwell, exit, delay, green, foot, hold, stay, most, limit⟩ := r
  show Calls Try.prog 96 #[.agg #[I bars, I clear, I dwell, I exit, I delay, I green, I foot, I hold, I stay, I most, I limit]] w _
  go_enter Try.func96, Try.ntmps96
  go_wp2_with fail
  refine (upto_any 255 _ _ [bars, clear, dwell, exit] _ (row_new _ _ [bars, clear, dwell, exit] 4 rfl (by decide) _ (by simp))).mono ?_
  rintro e w' ⟨rfl, rfl⟩
  generalize hb1 : allIn 255 [bars, clear, dwell, exit] = b1
  have HB1 := Lib.hid hb1
  clear hb1
  cases b1
  · go_wp2
    go_ret
    exact ⟨ret_bool (by unfold Rl.may; simp only [HB1.out, Bool.true_and, Bool.false_and, Bool.and_true, Bool.and_false]), (by repeat' first | exact Below.refl _ _ | (refine Below.alloc ?_ ?_ _) | (simp; done) | (simp; omega))⟩
  go_wp2_with fail
  refine (times_any _ _ [delay, green, foot, hold, stay, most] _ (row_new _ _ [delay, green, foot, hold, stay, most] 6 rfl (by decide) _ (by simp))).mono ?_
  rintro e w' ⟨rfl, rfl⟩
  generalize hb2 : allIn 9999 [delay, green, foot, hold, stay, most] = b2
  have HB2 := Lib.hid hb2
  clear hb2
  cases b2
  · go_wp2
    go_ret
    exact ⟨ret_bool (by unfold Rl.may; simp only [HB1.out, HB2.out, Bool.true_and, Bool.false_and, Bool.and_true, Bool.and_false]), (by repeat' first | exact Below.refl _ _ | (refine Below.alloc ?_ ?_ _) | (simp; done) | (simp; omega))⟩
  go_wp2_with fail
  refine (upto_any 2147483647 _ _ [limit] _ (row_new _ _ [limit] 1 rfl (by decide) _ (by simp))).mono ?_
  rintro e w' ⟨rfl, rfl⟩
  generalize hb3 : allIn 2147483647 [limit] = b3
  have HB3 := Lib.hid hb3
  clear hb3
  go_wp2
  go_ret
  exact ⟨ret_bool (by unfold Rl.may; simp only [HB1.out, HB2.out, HB3.out, Bool.true_and, Bool.false_and, Bool.and_true, Bool.and_false]), (by repeat' first | exact Below.refl _ _ | (refine Below.alloc ?_ ?_ _) | (simp; done) | (simp; omega))⟩
set_option maxHeartbeats 1000000 in
theorem mayBus_any (b : Bs) (w : World) :
    Calls Try.prog 76 #[.agg (Bs.cells b).toArray] w fun e w' => e = .returned (.bool (Bs.may b)) ∧ Below w.heap.size w w' := by
  obtain ⟨set, lock⟩ := b
  show Calls Try.prog 76 #[.agg #[I set, I lock]] w _
  go_enter Try.func76, Try.ntmps76
  go_wp2_with fail
  refine (within_any 255 _ _ [set] _ (row_new _ _ [set] 1 rfl (by decide) _ (by simp))).mono ?_
  rintro e w' ⟨rfl, rfl⟩
  generalize hb1 : allIn 255 [set] = b1
  have HB1 := Lib.hid hb1
  clear hb1
  cases b1
  · go_wp2
    go_ret
    exact ⟨ret_bool (by unfold Bs.may; simp only [HB1.out, Bool.true_and, Bool.false_and, Bool.and_true, Bool.and_false]), (by repeat' first | exact Below.refl _ _ | (refine Below.alloc ?_ ?_ _) | (simp; done) | (simp; omega))⟩
  go_wp2_with fail
  refine (within_any 9999 _ _ [lock] _ (row_new _ _ [lock] 1 rfl (by decide) _ (by simp))).mono ?_
  rintro e w' ⟨rfl, rfl⟩
  generalize hb2 : allIn 9999 [lock] = b2
  have HB2 := Lib.hid hb2
  clear hb2
  go_wp2
  go_ret
  exact ⟨ret_bool (by unfold Bs.may; simp only [HB1.out, HB2.out, Bool.true_and, Bool.false_and, Bool.and_true, Bool.and_false]), (by repeat' first | exact Below.refl _ _ | (refine Below.alloc ?_ ?_ _) | (simp; done) | (simp; omega))⟩
theorem mayRow_any (a : Option Addr) (cap : Nat) (l : List Int) (w : World) (h : IntRow w ⟨a, cap⟩ l) :
    Calls Try.prog 106 #[.slice a l.length cap] w fun e w' => e = .returned (.bool (rowMay l)) ∧ w = w' := by
  have h1 := h.len
  unfold maxLen at h1
  have Hr := Lib.hid h
  clear h
  by_cases h8 : l.length ≤ 8
  · go_enter Try.func106, Try.ntmps106
    go_wp2_with (go_at_call 70; refine (within_any _ _ _ _ _ Hr.out).mono ?_; rintro e w' ⟨rfl, rfl⟩)
    go_ret
    exact ⟨ret_bool (by unfold rowMay; rw [decide_eq_true h8, Bool.true_and]), rfl⟩
  · go_enter Try.func106, Try.ntmps106
    go_wp2
    go_ret
    exact ⟨ret_bool (by unfold rowMay; rw [decide_eq_false h8, Bool.false_and]), rfl⟩
theorem mayGroup_any (g : Gr) (w : World) (h : g.ok w) :
    Calls Try.prog 69 #[.agg g.cells.toArray] w fun e w' => e = .returned (.bool (groupMay g.data)) ∧ Below w.heap.size w w' := by
  obtain ⟨l0, l1, ⟨a0, cap0⟩, ⟨a1, cap1⟩⟩ := g
  have H0 := Lib.hid h.1
  have H1 := Lib.hid h.2
  clear h
  show Calls Try.prog 69 #[.agg #[.slice a0 l0.length cap0, .slice a1 l1.length cap1]] w _
  go_enter Try.func69, Try.ntmps69
  go_wp2_with fail
  refine (mayRow_any a0 cap0 l0 _ (H0.out.below ((Below.refl _ _).alloc (Nat.le_refl _) _))).mono ?_
  rintro e w' ⟨rfl, rfl⟩
  generalize hb1 : rowMay l0 = b1
  have HB1 := Lib.hid hb1
  clear hb1
  cases b1
  · go_wp2
    go_ret
    exact ⟨ret_bool (by unfold groupMay; simp only [Gr.data, HB1.out, Bool.true_and, Bool.false_and, Bool.and_true, Bool.and_false]), (by repeat' first | exact Below.refl _ _ | (refine Below.alloc ?_ ?_ _) | (simp; done) | (simp; omega))⟩
  go_wp2_with fail
  refine (mayRow_any a1 cap1 l1 _ (H1.out.below ((Below.refl _ _).alloc (Nat.le_refl _) _))).mono ?_
  rintro e w' ⟨rfl, rfl⟩
  generalize hb2 : rowMay l1 = b2
  have HB2 := Lib.hid hb2
  clear hb2
  go_wp2
  go_ret
  exact ⟨ret_bool (by unfold groupMay; simp only [Gr.data, HB1.out, HB2.out, Bool.true_and, Bool.false_and, Bool.and_true, Bool.and_false]), (by repeat' first | exact Below.refl _ _ | (refine Below.alloc ?_ ?_ _) | (simp; done) | (simp; omega))⟩
end Go.Proofs.Ytfekngnfjemgeaa.May
/- A region that draws its order of evaluation and holds calls that WRITE, one behind the other: walked once, in the order of the text. The calls are a chain: each waits for the one before it; all else reads, and reads the same before and behind each of them. No program in it. -/
namespace Go.Proofs.Ytfekngnfjemgeaa.Ph
open Go Go.RowKit

section
variable {P : Program} {ops : Array Oper} {md : Region.Mode} {D : Nat → World → Prop} {cs : List Nat}

/-- The first p of the chain have come up, and no other of it. -/
def Upto (cs : List Nat) (p : Nat) (L : Array Bool) : Prop := ∀ q c, cs[q]? = some c → L.getD c false = decide (q < p)
def Cl (D : Nat → World → Prop) (cs : List Nat) (L : Array Bool) (w : World) : Prop := ∃ p, p ≤ cs.length ∧ Upto cs p L ∧ D p w

def upon (P : Program) (C : World → Prop) (w : World) (v : Value) : Result Next → Prop
  | .ok (.value u) w' => w' = w ∧ u = v ∧ C w
  | .ok .skip w' => v = undef ∧ C w'
  | .ok (.enter f args) w' => w' = w ∧ Calls P f args w (fun e w'' => e = .returned v ∧ C w'')
  | _ => False
def Steps (P : Program) (md : Region.Mode) (ops : Array Oper) (D : Nat → World → Prop) (cs : List Nat) (i : Nat) (o : Oper) (a : Act) (v : Value) : Prop :=
  ∀ L w, L.size = ops.size → i ∈ Region.ready md ops L → Cl D cs L w → upon P (Cl D cs (L.setIfInBounds i true)) w v ((execOp a.eval o).run P w)
def Passes (md : Region.Mode) (ops : Array Oper) (D : Nat → World → Prop) (cs : List Nat) (i : Nat) : Prop :=
  ∀ L w, L.size = ops.size → i ∈ Region.ready md ops L → Cl D cs L w → Cl D cs (L.setIfInBounds i true) w

def pOp (P : Program) (md : Region.Mode) (ops : Array Oper) (D : Nat → World → Prop) (cs : List Nat) (i : Nat) (K : Act → Prop) (a : Act) : Prop :=
  match ops[i]? with
  | none => False
  | some o => if Region.wanted o (yielded ops a.tmps) then ∃ v, Steps P md ops D cs i o a v ∧ K (a.put o.dst v) else Passes md ops D cs i ∧ K (a.put o.dst undef)
theorem pOp_mono {i : Nat} {a : Act} {K K' : Act → Prop} (h : ∀ a, K a → K' a) (hh : pOp P md ops D cs i K a) : pOp P md ops D cs i K' a := by
  unfold pOp at *
  split
  · rename_i ho; simp only [ho] at hh
  · rename_i o ho
    simp only [ho] at hh
    split
    · rename_i hw; simp only [hw, if_true] at hh; exact ⟨hh.choose, hh.choose_spec.1, h _ hh.choose_spec.2⟩
    · rename_i hw; simp only [hw] at hh; exact ⟨hh.1, h _ hh.2⟩

def wpAnyP (P : Program) (md : Region.Mode) (ops : Array Oper) (D : Nat → World → Prop) (cs : List Nat) (Q : Array Bool → Act → Prop) : Nat → Array Bool → Act → Prop
  | 0, listed, a => Region.ready md ops listed = [] ∧ Q listed a
  | fuel + 1, listed, a =>
    Region.ready md ops listed ≠ [] ∧
    ∀ i ∈ Region.ready md ops listed, pOp P md ops D cs i (wpAnyP P md ops D cs Q fuel (listed.setIfInBounds i true)) a

theorem wpAny_of_ph {Q : Array Bool → Act → Prop} {Q' : Exit → Act → World → Prop} (hQ : ∀ L a w, Cl D cs L w → Q L a → Q' .normal a w) : ∀ (fuel : Nat) (listed : Array Bool) (a : Act) (w : World), listed.size = ops.size → Cl D cs listed w →
    wpAnyP P md ops D cs Q fuel listed a → wpAny P md ops Q' fuel listed a w
  | 0, _, _, _, _, hw, h => ⟨h.1, hQ _ _ _ hw h.2⟩
  | fuel + 1, listed, a, w, hsz, hw, h => ⟨fun h0 => absurd h0 h.1, fun i hi => by
      have h1 := h.2 i hi
      unfold pOp at h1
      unfold wpOp
      split
      · rename_i ho; simp only [ho] at h1
      · rename_i o ho
        simp only [ho] at h1
        split
        · rename_i hwt
          simp only [hwt, if_true] at h1
          obtain ⟨v, hst, hK⟩ := h1
          refine .inl ?_
          have h2 := hst listed w hsz hi hw
          unfold Oper.wp
          generalize (execOp a.eval o).run P w = r at *
          have hsz' : (listed.setIfInBounds i true).size = ops.size := by simpa using hsz
          cases r with
          | ok n w' =>
            cases n <;> simp only [upon] at h2 <;> simp only [Oper.upon]
            case value u =>
              obtain ⟨rfl, rfl, hC⟩ := h2
              exact wpAny_of_ph hQ fuel _ _ _ hsz' hC hK
            case skip =>
              obtain ⟨rfl, hC⟩ := h2
              exact wpAny_of_ph hQ fuel _ _ _ hsz' hC hK
            case enter f args =>
              obtain ⟨rfl, hc⟩ := h2
              exact hc.mono fun e w'' ⟨he, hC⟩ => by subst he; exact wpAny_of_ph hQ fuel _ _ _ hsz' hC hK
          | halt x w' => simp only [upon] at h2
        · rename_i hwt
          simp only [hwt] at h1
          exact wpAny_of_ph hQ fuel _ _ _ (by simpa using hsz) (h1.1 listed w hsz hi hw) h1.2⟩

def YieldsP (P : Program) (md : Region.Mode) (ops : Array Oper) (D : Nat → World → Prop) (cs : List Nat) (i : Nat) (o : Oper) (v : Value) (a : Act) : Prop :=
  (Region.wanted o (yielded ops a.tmps) = true ∧ Steps P md ops D cs i o a v) ∨ (Region.wanted o (yielded ops a.tmps) = false ∧ v = undef ∧ Passes md ops D cs i)
theorem YieldsP.pOp {i : Nat} {o : Oper} {v : Value} {a : Act} (hi : ops[i]? = some o) (hy : YieldsP P md ops D cs i o v a) {K : Act → Prop} (h : K (a.put o.dst v)) : pOp P md ops D cs i K a := by
  unfold Ph.pOp
  simp only [hi]
  rcases hy with ⟨hw, hv⟩ | ⟨hw, rfl, hp⟩
  · simp only [hw, if_true]; exact ⟨v, hv, h⟩
  · simp only [hw, Bool.false_eq_true, if_false]; exact ⟨hp, h⟩
theorem YieldsP.of_same {i : Nat} {o : Oper} {v : Value} {a a' : Act} (hy : YieldsP P md ops D cs i o v a) (he : execOp a'.eval o = execOp a.eval o)
    (hw : Region.wanted o (yielded ops a'.tmps) = Region.wanted o (yielded ops a.tmps)) : YieldsP P md ops D cs i o v a' := by
  unfold YieldsP Steps at *
  rw [he, hw]
  exact hy
theorem yieldsP_of_pOp {i : Nat} {o : Oper} {a : Act} {K : Act → Prop} (hi : ops[i]? = some o) (h : pOp P md ops D cs i K a) : ∃ v, YieldsP P md ops D cs i o v a ∧ K (a.put o.dst v) := by
  unfold pOp at h
  simp only [hi] at h
  by_cases hw : Region.wanted o (yielded ops a.tmps) = true
  · simp only [hw, if_true] at h
    obtain ⟨v, h1, h2⟩ := h
    exact ⟨v, .inl ⟨hw, h1⟩, h2⟩
  · simp only [hw] at h
    exact ⟨undef, .inr ⟨by simpa using hw, rfl, h.1⟩, h.2⟩
theorem pOp_put {i j : Nat} {oi oj : Oper} {v : Value} (hj : ops[j]? = some oj) (hap : oi.apart ops oj = true)
    (hsi : ∀ cs b, oi.op ≠ .select cs b) (hsj : ∀ cs b, oj.op ≠ .select cs b) {K : Act → Prop} {a : Act}
    (hy : YieldsP P md ops D cs i oi v a) (h : pOp P md ops D cs j K (a.put oi.dst v)) :
    pOp P md ops D cs j (fun a' => YieldsP P md ops D cs i oi v a' ∧ K (a'.put oi.dst v)) a := by
  obtain ⟨h1, h2, h3⟩ := Oper.apart_spec hap
  have keep : ∀ (a : Act), YieldsP P md ops D cs i oi v a → ∀ u, YieldsP P md ops D cs i oi v (a.put oj.dst u) := fun a hy u =>
    hy.of_same (execOp_put oi hsi a oj.dst u h3) (wanted_put oi a oj.dst u h3)
  unfold pOp at *
  simp only [hj] at *
  rw [wanted_put oj a oi.dst v h1] at h
  split
  · rename_i hw
    simp only [hw, if_true] at h
    obtain ⟨u, hu, hn⟩ := h
    refine ⟨u, ?_, keep a hy u, by rw [← Act.put_comm a v u h2]; exact hn⟩
    unfold Steps at *
    rwa [execOp_put oj hsj a oi.dst v h1] at hu
  · rename_i hw
    simp only [hw] at h
    exact ⟨h.1, keep a hy _, by rw [← Act.put_comm a v undef h2]; exact h.2⟩

theorem wpAnyP_first {Q : Array Bool → Act → Prop} {i : Nat} {oi : Oper} {v : Value} (hi : ops[i]? = some oi) (hsel : ∀ (j : Nat) (o : Oper) cs b, ops[j]? = some o → o.op ≠ .select cs b) :
    ∀ (fuel : Nat) (listed : Array Bool) (a : Act),
      (∀ j oj, ops[j]? = some oj → j ≠ i → listed.getD j true = false → (∀ e ∈ oj.after, Region.binds md e = true → e.on ≠ i) → oi.apart ops oj = true) →
      i ∈ Region.ready md ops listed → YieldsP P md ops D cs i oi v a →
      wpAnyP P md ops D cs Q fuel (listed.setIfInBounds i true) (a.put oi.dst v) → wpAnyP P md ops D cs Q (fuel + 1) listed a := by
  intro fuel
  induction fuel with
  | zero =>
    intro listed a _ hr hy H
    refine ⟨fun h => (by rw [h] at hr; cases hr), fun j hj => ?_⟩
    by_cases hji : j = i
    · subst hji; exact hy.pOp hi H
    · have := ready_mono hj hji
      rw [H.1] at this
      cases this
  | succ fuel ih =>
    intro listed a hfree hr hy H
    refine ⟨fun h => (by rw [h] at hr; cases hr), fun j hj => ?_⟩
    by_cases hji : j = i
    · subst hji; exact hy.pOp hi H
    · have h1 := H.2 j (ready_mono hj hji)
      obtain ⟨hjun, oj, hoj, hall⟩ := mem_ready.1 hj
      have hnot : ∀ e ∈ oj.after, Region.binds md e = true → e.on ≠ i := fun e he hb heq => by
        have h1 := hall e he hb
        have h0 := (mem_ready.1 hr).1
        rw [heq] at h1
        rcases Nat.lt_or_ge i listed.size with h' | h'
        · simp [h'] at h0 h1; rw [h0] at h1; cases h1
        · simp [Array.getElem?_eq_none h'] at h1
      have h2 := pOp_put hoj (hfree j oj hoj hji hjun hnot) (fun cs b => hsel i oi cs b hi) (fun cs b => hsel j oj cs b hoj) hy h1
      have hfree' : ∀ k ok, ops[k]? = some ok → k ≠ i → (listed.setIfInBounds j true).getD k true = false →
          (∀ e ∈ ok.after, Region.binds md e = true → e.on ≠ i) → oi.apart ops ok = true := fun k ok hk hki hun hno => by
        refine hfree k ok hk hki ?_ hno
        by_cases hjk : j = k
        · subst hjk; exact hjun
        · rw [getD_set_ne true hjk] at hun; exact hun
      refine pOp_mono (fun a' h3 => ih (listed.setIfInBounds j true) a' hfree' (ready_mono hr (Ne.symm hji)) h3.1 ?_) h2
      rw [Array.setIfInBounds_comm _ _ hji]
      exact h3.2

/-- A world, and how far the chain has come. -/
structure S (D : Nat → World → Prop) where
  ph : Nat
  world : World
  is : D ph world
/-- An operation that reads, the same value in every phase; a call may leave another world of the phase. -/
def Oper.calmUpon (P : Program) (C : World → Prop) (w : World) (v : Value) : Result Next → Prop
  | .ok (.value u) w' => w' = w ∧ u = v
  | .ok .skip w' => w' = w ∧ v = undef
  | .ok (.enter f args) w' => w' = w ∧ Calls P f args w (fun e w'' => e = .returned v ∧ C w'')
  | _ => False
def Oper.calm (P : Program) (o : Oper) (a : Act) (D : Nat → World → Prop) (next : Act → Prop) : Prop := ∃ v, (∀ p : S D, Oper.calmUpon P (D p.ph) p.world v ((execOp a.eval o).run P p.world)) ∧ next (a.put o.dst v)
/-- The chain's operation number p. -/
def Oper.linkUpon (P : Program) (C : World → Prop) (w : World) (v : Value) : Result Next → Prop
  | .ok .skip w' => v = undef ∧ C w'
  | .ok (.enter f args) w' => w' = w ∧ Calls P f args w (fun e w'' => e = .returned v ∧ C w'')
  | _ => False
def Oper.link (P : Program) (o : Oper) (a : Act) (C C' : World → Prop) (next : Act → Prop) : Prop := ∃ v, (∀ w, C w → Oper.linkUpon P C' w v ((execOp a.eval o).run P w)) ∧ next (a.put o.dst v)
/-- The lexical walk. -/
def wpPh (P : Program) (ops : Array Oper) (D : Nat → World → Prop) (cs : List Nat) (Q : Act → Prop) : Nat → List Oper → Act → Prop
  | _, [], a => Q a
  | k, o :: rest, a =>
    match cs.idxOf? k with
    | some p => Region.wanted o (yielded ops a.tmps) = true ∧ Oper.link P o a (D p) (D (p + 1)) (wpPh P ops D cs Q (k + 1) rest)
    | none => if Region.wanted o (yielded ops a.tmps) then Oper.calm P o a D (wpPh P ops D cs Q (k + 1) rest) else wpPh P ops D cs Q (k + 1) rest (a.put o.dst undef)

theorem upto_other {p k : Nat} {L : Array Bool} (hk : k ∉ cs) (h : Upto cs p L) : Upto cs p (L.setIfInBounds k true) := by
  intro q c hq
  have hne : k ≠ c := fun e => hk (by rw [e]; exact List.mem_of_getElem? hq)
  rw [getD_set_ne false hne]; exact h q c hq
theorem steps_of_calm {k : Nat} {o : Oper} {a : Act} {v : Value} (hk : k ∉ cs) (h : ∀ p : S D, Oper.calmUpon P (D p.ph) p.world v ((execOp a.eval o).run P p.world)) : Steps P md ops D cs k o a v := by
  intro L w _ _ ⟨p, hp, hat, hd⟩
  have h1 := h ⟨p, w, hd⟩
  simp only at h1
  generalize (execOp a.eval o).run P w = r at *
  cases r with
  | ok n w' =>
    cases n <;> simp only [Oper.calmUpon] at h1 <;> simp only [upon]
    case value u => exact ⟨h1.1, h1.2, p, hp, upto_other hk hat, hd⟩
    case skip => exact ⟨h1.2, p, hp, upto_other hk hat, by rw [h1.1]; exact hd⟩
    case enter f args => exact ⟨h1.1, h1.2.mono fun e w'' ⟨he, hd'⟩ => ⟨he, p, hp, upto_other hk hat, hd'⟩⟩
  | halt x w' => simp only [Oper.calmUpon] at h1
theorem passes_of {k : Nat} (hk : k ∉ cs) : Passes md ops D cs k := fun L w _ _ ⟨p, hp, hat, hd⟩ => ⟨p, hp, upto_other hk hat, hd⟩

def chainOk (md : Region.Mode) (ops : Array Oper) (cs : List Nat) : Bool :=
  decide cs.Nodup && (List.range cs.length).all fun p => decide (p = 0) || Region.waitsFor md ops (cs.getD p 0) (cs.getD (p - 1) 0)
theorem steps_of_link {k p : Nat} {o : Oper} {a : Act} {v : Value} (hc : chainOk md ops cs = true) (hk : cs[p]? = some k)
    (h : ∀ w, D p w → Oper.linkUpon P (D (p + 1)) w v ((execOp a.eval o).run P w)) : Steps P md ops D cs k o a v := by
  intro L w hsz hr ⟨p', hp, hat, hd⟩
  simp only [chainOk, Bool.and_eq_true, decide_eq_true_eq] at hc
  obtain ⟨hnd, hall⟩ := hc
  have hpl : p < cs.length := (List.getElem?_eq_some_iff.1 hk).1
  obtain ⟨hun, ok, hok, hedges⟩ := mem_ready.1 hr
  have hkl : k < L.size := by rw [hsz]; exact (Array.getElem?_eq_some_iff.1 hok).1
  have h1 := hat p k hk
  rw [getD_both hun] at h1
  have h2 : ¬ p < p' := fun hlt => by rw [decide_eq_true hlt] at h1; cases h1
  have h3 : p ≤ p' := by
    by_cases h0 : p = 0
    · omega
    · have h4 := List.all_eq_true.1 hall p (List.mem_range.2 hpl)
      simp only [Bool.or_eq_true, decide_eq_true_eq] at h4
      rcases h4 with h4 | h4
      · omega
      · rw [List.getD_eq_getElem?_getD, hk, Option.getD_some] at h4
        obtain ⟨oj, hoj, e, he, hb, hon⟩ := Region.waitsFor_spec h4
        have : oj = ok := Option.some.inj (hoj.symm.trans hok)
        subst this
        have h5 := hedges e he hb
        have h6 : cs[p - 1]? = some (cs.getD (p - 1) 0) := by
          rw [List.getD_eq_getElem?_getD, List.getElem?_eq_getElem (show p - 1 < cs.length by omega)]; rfl
        have h7 := hat (p - 1) _ h6
        rw [← hon, h5] at h7
        have := of_decide_eq_true h7.symm
        omega
  obtain rfl : p' = p := by omega
  have hnew : Upto cs (p' + 1) (L.setIfInBounds k true) := by
    intro q c hq
    by_cases hck : k = c
    · subst hck
      have hqp : q = p' := by
        have hql : q < cs.length := (List.getElem?_eq_some_iff.1 hq).1
        have e1 : cs[q] = cs[p'] := by
          have a1 := List.getElem?_eq_some_iff.1 hq
          have a2 := List.getElem?_eq_some_iff.1 hk
          rw [a1.2, a2.2]
        have h10 := List.pairwise_iff_getElem.1 hnd
        rcases Nat.lt_trichotomy q p' with h11 | h11 | h11
        · exact absurd e1 (h10 q p' hql hpl h11)
        · exact h11
        · exact absurd e1.symm (h10 p' q hpl hql h11)
      subst hqp
      rw [decide_eq_true (by omega)]
      simp [hkl]
    · rw [getD_set_ne false hck, hat q c hq]
      have hqp : q ≠ p' := fun e => by subst e; rw [hk] at hq; exact hck (Option.some.inj hq)
      by_cases h8 : q < p'
      · rw [decide_eq_true h8, decide_eq_true (by omega)]
      · rw [decide_eq_false h8, decide_eq_false (by omega)]
  have h9 := h w hd
  generalize (execOp a.eval o).run P w = r at *
  cases r with
  | ok n w' =>
    cases n <;> simp only [Oper.linkUpon] at h9 <;> simp only [upon]
    case skip => exact ⟨h9.1, p' + 1, by omega, hnew, h9.2⟩
    case enter f args => exact ⟨h9.1, h9.2.mono fun e w'' ⟨he, hd'⟩ => ⟨he, p' + 1, by omega, hnew, hd'⟩⟩
  | halt x w' => simp only [Oper.linkUpon] at h9

def lexFromP (md : Region.Mode) (ops : Array Oper) (cs : List Nat) : Nat → Nat → Array Bool → Bool
  | 0, _, listed => (Region.ready md ops listed).isEmpty && cs.all fun c => listed.getD c false
  | fuel + 1, k, listed => (Region.ready md ops listed).contains k && Region.free md ops listed k && lexFromP md ops cs fuel (k + 1) (listed.setIfInBounds k true)
theorem idxOf_some {k p : Nat} (h : cs.idxOf? k = some p) : cs[p]? = some k := by
  have h1 := List.findIdx?_eq_some_iff_getElem.1 (by simpa [List.idxOf?] using h)
  obtain ⟨hp, h2, _⟩ := h1
  rw [List.getElem?_eq_getElem hp]
  simpa using h2
theorem idxOf_none {k : Nat} (h : cs.idxOf? k = none) : k ∉ cs := by
  intro hm
  have h1 : ∀ x ∈ cs, ¬ x = k := by simpa [List.idxOf?] using h
  exact h1 k hm rfl
theorem wpAnyP_lex {Q : Act → Prop} (hs : Region.noSelect ops = true) (hc : chainOk md ops cs = true) : ∀ (l : List Oper) (k : Nat) (listed : Array Bool) (a : Act), (∀ j, l[j]? = ops[k + j]?) →
    lexFromP md ops cs l.length k listed = true → wpPh P ops D cs Q k l a → wpAnyP P md ops D cs (fun L a => (cs.all fun c => L.getD c false) = true ∧ Q a) l.length listed a
  | [], _, _, _, _, hB, h => by
    simp only [List.length_nil, lexFromP, Bool.and_eq_true] at hB
    exact ⟨by simpa using hB.1, hB.2, h⟩
  | o :: l, k, listed, a, hl, hB, h => by
    have h0 : ops[k]? = some o := by simpa using (hl 0).symm
    simp only [List.length_cons, lexFromP, Bool.and_eq_true] at hB
    obtain ⟨⟨hr, hf⟩, hB'⟩ := hB
    have hst : pOp P md ops D cs k (wpPh P ops D cs Q (k + 1) l) a := by
      unfold pOp
      simp only [h0]
      unfold wpPh at h
      split at h
      · rename_i p hp
        obtain ⟨hw, v, h1, h2⟩ := h
        rw [if_pos hw]
        exact ⟨v, steps_of_link hc (idxOf_some hp) h1, h2⟩
      · rename_i hp
        have hk := idxOf_none hp
        split
        · rename_i hw
          rw [if_pos hw] at h
          obtain ⟨v, h1, h2⟩ := h
          exact ⟨v, steps_of_calm hk h1, h2⟩
        · rename_i hw
          rw [if_neg hw] at h
          exact ⟨passes_of hk, h⟩
    obtain ⟨v, hy, hK⟩ := yieldsP_of_pOp h0 hst
    exact wpAnyP_first h0 (Region.noSelect_spec hs) l.length listed a (Region.free_spec h0 hf) (by simpa using hr) hy
      (wpAnyP_lex hs hc l (k + 1) _ _ (fun j => by have := hl (j + 1); simpa [Nat.add_assoc, Nat.add_comm 1 j] using this) hB' hK)

def okB (md : Region.Mode) (ops : Array Oper) (cs : List Nat) : Bool := Region.noSelect ops && chainOk md ops cs && lexFromP md ops cs ops.size 0 (Array.replicate ops.size false)
/-- **The law.** What stands behind the region is asked in every world in which the chain has come to its end. -/
theorem wp_region_ph {id : Nat} {Q : Exit → Act → World → Prop} {a : Act} {w : World} {l : List Oper} (D : Nat → World → Prop) (cs : List Nat) (hm : P.follows .mixedOrders = true) (hB : okB .any l.toArray cs = true) (hD : D 0 w.drew)
    (h : wpPh P l.toArray D cs (fun a' => ∀ w', D cs.length w' → Q .normal a' w') 0 l a) : (Code.region id l.toArray true).wp P Q a w := by
  simp only [okB, Bool.and_eq_true] at hB
  obtain ⟨⟨hs, hc⟩, hlex⟩ := hB
  have h1 := wpAnyP_lex (md := .any) hs hc l 0 (Array.replicate l.toArray.size false) a (by simp) (by simpa using hlex) h
  refine wp_region_any hm ?_
  refine wpAny_of_ph (D := D) (cs := cs) (Q := fun L a => (cs.all fun c => L.getD c false) = true ∧ ∀ w', D cs.length w' → Q .normal a w') (fun L a w ⟨p, hp, hat, hd⟩ ⟨hall, hq⟩ => ?_) _ _ _ _ (by simp) ⟨0, Nat.zero_le _, fun q c _ => by rw [getD_replicate_false]; simp, hD⟩ (by simpa using h1)
  have hpe : p = cs.length := by
    rcases Nat.lt_or_ge p cs.length with h2 | h2
    · have h3 := hat p _ (List.getElem?_eq_getElem h2)
      have h4 := List.all_eq_true.1 hall _ (List.getElem_mem h2)
      rw [h4] at h3
      have := of_decide_eq_true h3.symm
      omega
    · omega
  subst hpe
  exact hq w hd
/-! the walk, a step at a time -/
theorem wpPh_nil {Q : Act → Prop} {k : Nat} {a : Act} (h : Q a) : wpPh P ops D cs Q k [] a := h
theorem wpPh_calm {Q : Act → Prop} {k : Nat} {a : Act} {o : Oper} {rest : List Oper} (hk : cs.idxOf? k = none)
    (h : ∀ K : Act → Prop, (∀ a, wpPh P ops D cs Q (k + 1) rest a → K a) → if Region.wanted o (yielded ops a.tmps) then Oper.calm P o a D K else K (a.put o.dst undef)) : wpPh P ops D cs Q k (o :: rest) a := by
  unfold wpPh
  simp only [hk]
  exact h _ fun _ h => h
theorem wpPh_link {Q : Act → Prop} {k p : Nat} {a : Act} {o : Oper} {rest : List Oper} (hk : cs.idxOf? k = some p)
    (h : ∀ K : Act → Prop, (∀ a, wpPh P ops D cs Q (k + 1) rest a → K a) → Region.wanted o (yielded ops a.tmps) = true ∧ Oper.link P o a (D p) (D (p + 1)) K) : wpPh P ops D cs Q k (o :: rest) a := by
  unfold wpPh
  simp only [hk]
  exact h _ fun _ h => h
end
attribute [go_sem] Oper.calm Oper.calmUpon Oper.link Oper.linkUpon
end Go.Proofs.Ytfekngnfjemgeaa.Ph
/- Whole rows by value: out of memory wherever they lie; into a block that was just made; in a region that draws its order, as a step of the walk by phases (Ph). No program in it. -/
namespace Go.Proofs.Ytfekngnfjemgeaa.Row
open Go Go.RowKit
open Tab

section
variable {P : Program}
theorem run_loadVar_lies (w : World) (y : Addr) (ty : TypeId) (cs : List Value) (d : TypeDesc) (hc : Lies w y cs) (hu : P.underlying ty = some d) (hd : d.isRow = true) (hi : (P.info? ty).map (·.size) = some cs.length) :
    (loadVar ty y).run P w = .ok (.agg cs.toArray) w := by
  have hl : (loadCells y cs.length).run P w = .ok cs.toArray w := run_loadCells_list (P := P) w y cs (fun j v hv => hc j v hv)
  cases hq : P.info? ty with
  | none => simp [hq] at hi
  | some i =>
    have hs : i.size = cs.length := by simpa [hq] using hi
    have hagg : (isAgg ty).run P w = .ok true w := by
      unfold isAgg
      rw [Sem.run_bind, run_underlying hu w]
      cases d <;> simp_all
    simp [loadVar, Sem.run_bind, hagg, sizeOf, typeInfo, hq, hs, hl]
theorem run_loadAt_lies (w : World) (y : Addr) (ty : TypeId) (cs : List Value) (d : TypeDesc) (hc : Lies w y cs) (hu : P.underlying ty = some d) (hd : d.isRow = true) (hi : (P.info? ty).map (·.size) = some cs.length) :
    (Instr.loadAt ty (.pointer (some y))).run P w = .ok (.agg cs.toArray) w := by
  simp only [Instr.loadAt, Instr.sureAddr, Sem.run_bind, Sem.run_pure, Result.andThen_ok, run_loadVar_lies w y ty cs d hc hu hd hi]
theorem wp_load_lies {op : Oper} {a : Act} {w : World} {K : Act → World → Prop} {Q : Exit → Act → World → Prop} (ty : TypeId) (x : Operand) (ho : op.op = .load ty x)
    (y : Addr) (hx : a.eval x = .pointer (some y)) (cs : List Value) (d : TypeDesc) (hc : Lies w y cs) (hu : P.underlying ty = some d) (hd : d.isRow = true) (hi : (P.info? ty).map (·.size) = some cs.length)
    (h : K (a.put op.dst (.agg cs.toArray)) w) : op.wp P a w K Q := by
  unfold Oper.wp execOp
  simp only [ho, hx, Instr.loadAt, Instr.sureAddr, Sem.run_bind, Sem.run_pure, Result.andThen_ok, run_loadVar_lies w y ty cs d hc hu hd hi]
  exact h
theorem wpList_load_lies {ops : Array Oper} {rest : List Oper} {op : Oper} {a : Act} {w : World} {Q : Exit → Act → World → Prop} (hgd : op.guard = none) (ty : TypeId) (x : Operand) (ho : op.op = .load ty x)
    (y : Addr) (hx : a.eval x = .pointer (some y)) (cs : List Value) (d : TypeDesc) (hc : Lies w y cs) (hu : P.underlying ty = some d) (hd : d.isRow = true) (hi : (P.info? ty).map (·.size) = some cs.length)
    (h : wpList P ops Q rest (a.put op.dst (.agg cs.toArray)) w) : wpList P ops Q (op :: rest) a w :=
  wpList_plain hgd fun _ hK => wp_load_lies ty x ho y hx cs d hc hu hd hi (hK _ _ h)
/-- Behind a guard that says yes. -/
theorem wpList_load_g {ops : Array Oper} {rest : List Oper} {op : Oper} {a : Act} {w : World} {Q : Exit → Act → World → Prop} (ty : TypeId) (x : Operand) (ho : op.op = .load ty x) (hw : Region.wanted op (yielded ops a.tmps) = true)
    (y : Addr) (hx : a.eval x = .pointer (some y)) (cs : List Value) (d : TypeDesc) (hc : Lies w y cs) (hu : P.underlying ty = some d) (hd : d.isRow = true) (hi : (P.info? ty).map (·.size) = some cs.length)
    (h : wpList P ops Q rest (a.put op.dst (.agg cs.toArray)) w) : wpList P ops Q (op :: rest) a w :=
  BigFrame.wpList_want hw fun _ hK => wp_load_lies ty x ho y hx cs d hc hu hd hi (hK _ _ h)
/-- A whole row into the block that was made last. -/
theorem wpList_store_new {ops : Array Oper} {rest : List Oper} {op : Oper} {a : Act} {w : World} {Q : Exit → Act → World → Prop} (hgd : op.guard = none) (ty : TypeId) (x y : Operand) (ho : op.op = .store ty x y)
    (w0 : World) (old cells : Array Value) (hw : w = w0.alloc (.cells old ty)) (hx : a.eval x = .pointer (some ⟨w0.heap.size, 0, none⟩)) (hy : a.eval y = .agg cells) (hi : (P.info? ty).map (·.size) = some cells.size) (hold : old.size = cells.size) (h1 : cells.all (·.oneCell') = true)
    (h : wpList P ops Q rest (a.put op.dst undef) (w0.alloc (.cells cells ty))) : wpList P ops Q (op :: rest) a w := by
  subst hw
  refine wpList_store_row hgd ty x y ho w0.heap.size cells hx hy ty old (heap_alloc_new w0 _) hi hold h1 ?_
  rw [World.setRow_alloc_new]
  exact h
theorem lies_new (w : World) (cs : Array Value) (t : TypeId) : Lies (w.alloc (.cells cs t)) ⟨w.heap.size, 0, none⟩ cs.toList := fun j v hv => by
  rw [Addr.add_mid, cell_of_row _ _ _ _ _ _ (heap_alloc_new w _), Nat.zero_add]
  simpa using hv
theorem lies_of_block {w : World} {g : Nat} {cs : Array Value} {t : TypeId} {fr : Nat × Nat} (hg : w.heap[g]? = some (.cells cs t fr)) : Lies w ⟨g, 0, none⟩ cs.toList := fun j v hv => by
  rw [Addr.add_mid, cell_of_row _ _ _ _ _ _ hg, Nat.zero_add]
  simpa using hv
/-- In a region that draws. -/
theorem wpPh_load {D : Nat → World → Prop} {ns : List Nat} {ops : Array Oper} {Q : Act → Prop} {k : Nat} {a : Act} {o : Oper} {rest : List Oper} (hk : ns.idxOf? k = none) (hw : Region.wanted o (yielded ops a.tmps) = true)
    (ty : TypeId) (x : Operand) (ho : o.op = .load ty x) (y : Addr) (hx : a.eval x = .pointer (some y)) (cs : List Value) (d : TypeDesc) (hc : ∀ p : Ph.S D, Lies p.world y cs)
    (hu : P.underlying ty = some d) (hd : d.isRow = true) (hi : (P.info? ty).map (·.size) = some cs.length) (h : Ph.wpPh P ops D ns Q (k + 1) rest (a.put o.dst (.agg cs.toArray))) : Ph.wpPh P ops D ns Q k (o :: rest) a := by
  refine Ph.wpPh_calm hk fun K hK => ?_
  rw [if_pos hw]
  refine ⟨_, fun p => ?_, hK _ h⟩
  unfold execOp
  simp only [ho, hx, Instr.loadAt, Instr.sureAddr, Sem.run_bind, Sem.run_pure, Result.andThen_ok, run_loadVar_lies p.world y ty cs d (hc p) hu hd hi]
  exact ⟨rfl, rfl⟩
/-! ### two rows compared -/
theorem run_eql_op (w : World) {a : Act} {o : Oper} (t : TypeId) (x y : Operand) (t2 : TypeId) (ho : o.op = .binOp .eql t x y t2) (xs ys : Array Value) (hx : a.eval x = .agg xs) (hy : a.eval y = .agg ys) (hg : P.eqGuardType P.depth t = false) (b : Bool)
    (he : ∀ w, (Op.equalIn 10000 t (.agg xs) (.agg ys)).run P w = .ok b w) : (execOp a.eval o).run P w = .ok (.value (.bool b)) w := by
  unfold execOp
  simp only [ho, hx, hy, Sem.run_bind, run_eqGuard_agg w .eql t x y xs ys hg, Result.andThen_ok, run_eql_struct, he w, Sem.run_pure]
theorem run_neq_op (w : World) {a : Act} {o : Oper} (t : TypeId) (x y : Operand) (t2 : TypeId) (ho : o.op = .binOp .neq t x y t2) (xs ys : Array Value) (hx : a.eval x = .agg xs) (hy : a.eval y = .agg ys) (hg : P.eqGuardType P.depth t = false) (b : Bool)
    (he : ∀ w, (Op.equalIn 10000 t (.agg xs) (.agg ys)).run P w = .ok b w) : (execOp a.eval o).run P w = .ok (.value (.bool (!b))) w := by
  unfold execOp
  simp only [ho, hx, hy, Sem.run_bind, run_eqGuard_agg w .neq t x y xs ys hg, Result.andThen_ok, run_neq_struct, he w, Sem.run_pure]
theorem wpList_eql {ops : Array Oper} {rest : List Oper} {o : Oper} {a : Act} {w : World} {Q : Exit → Act → World → Prop} (t : TypeId) (x y : Operand) (t2 : TypeId) (ho : o.op = .binOp .eql t x y t2) (hw : Region.wanted o (yielded ops a.tmps) = true)
    (xs ys : Array Value) (hx : a.eval x = .agg xs) (hy : a.eval y = .agg ys) (hg : P.eqGuardType P.depth t = false) (b : Bool) (he : ∀ w, (Op.equalIn 10000 t (.agg xs) (.agg ys)).run P w = .ok b w)
    (h : wpList P ops Q rest (a.put o.dst (.bool b)) w) : wpList P ops Q (o :: rest) a w :=
  BigFrame.wpList_want hw fun _ hK => by
    unfold Oper.wp
    rw [run_eql_op w t x y t2 ho xs ys hx hy hg b he]
    exact hK _ _ h
theorem wpList_neq {ops : Array Oper} {rest : List Oper} {o : Oper} {a : Act} {w : World} {Q : Exit → Act → World → Prop} (t : TypeId) (x y : Operand) (t2 : TypeId) (ho : o.op = .binOp .neq t x y t2) (hw : Region.wanted o (yielded ops a.tmps) = true)
    (xs ys : Array Value) (hx : a.eval x = .agg xs) (hy : a.eval y = .agg ys) (hg : P.eqGuardType P.depth t = false) (b : Bool) (he : ∀ w, (Op.equalIn 10000 t (.agg xs) (.agg ys)).run P w = .ok b w)
    (h : wpList P ops Q rest (a.put o.dst (.bool (!b))) w) : wpList P ops Q (o :: rest) a w :=
  BigFrame.wpList_want hw fun _ hK => by
    unfold Oper.wp
    rw [run_neq_op w t x y t2 ho xs ys hx hy hg b he]
    exact hK _ _ h
theorem wpPh_eql {D : Nat → World → Prop} {ns : List Nat} {ops : Array Oper} {Q : Act → Prop} {k : Nat} {a : Act} {o : Oper} {rest : List Oper} (t : TypeId) (x y : Operand) (t2 : TypeId) (ho : o.op = .binOp .eql t x y t2) (hk : ns.idxOf? k = none) (hw : Region.wanted o (yielded ops a.tmps) = true)
    (xs ys : Array Value) (hx : a.eval x = .agg xs) (hy : a.eval y = .agg ys) (hg : P.eqGuardType P.depth t = false) (b : Bool) (he : ∀ w, (Op.equalIn 10000 t (.agg xs) (.agg ys)).run P w = .ok b w)
    (h : Ph.wpPh P ops D ns Q (k + 1) rest (a.put o.dst (.bool b))) : Ph.wpPh P ops D ns Q k (o :: rest) a := by
  refine Ph.wpPh_calm hk fun K hK => ?_
  rw [if_pos hw]
  refine ⟨_, fun p => ?_, hK _ h⟩
  rw [run_eql_op p.world t x y t2 ho xs ys hx hy hg b he]
  exact ⟨rfl, rfl⟩
theorem wpPh_neq {D : Nat → World → Prop} {ns : List Nat} {ops : Array Oper} {Q : Act → Prop} {k : Nat} {a : Act} {o : Oper} {rest : List Oper} (t : TypeId) (x y : Operand) (t2 : TypeId) (ho : o.op = .binOp .neq t x y t2) (hk : ns.idxOf? k = none) (hw : Region.wanted o (yielded ops a.tmps) = true)
    (xs ys : Array Value) (hx : a.eval x = .agg xs) (hy : a.eval y = .agg ys) (hg : P.eqGuardType P.depth t = false) (b : Bool) (he : ∀ w, (Op.equalIn 10000 t (.agg xs) (.agg ys)).run P w = .ok b w)
    (h : Ph.wpPh P ops D ns Q (k + 1) rest (a.put o.dst (.bool (!b)))) : Ph.wpPh P ops D ns Q k (o :: rest) a := by
  refine Ph.wpPh_calm hk fun K hK => ?_
  rw [if_pos hw]
  refine ⟨_, fun p => ?_, hK _ h⟩
  rw [run_neq_op p.world t x y t2 ho xs ys hx hy hg b he]
  exact ⟨rfl, rfl⟩
/-- A call in a region that draws: any world of the class, and it is left in one of the class. -/
theorem wpPh_call {D : Nat → World → Prop} {ns : List Nat} {ops : Array Oper} {Q : Act → Prop} {k : Nat} {a : Act} {o : Oper} {rest : List Oper} (f : FuncId) (args : Array Value) (v : Value) (hk : ns.idxOf? k = none) (hw : Region.wanted o (yielded ops a.tmps) = true)
    (hr : ∀ w, (execOp a.eval o).run P w = .ok (.enter f args) w) (hc : ∀ p : Ph.S D, Calls P f args p.world fun e w'' => e = .returned v ∧ D p.ph w'')
    (h : Ph.wpPh P ops D ns Q (k + 1) rest (a.put o.dst v)) : Ph.wpPh P ops D ns Q k (o :: rest) a := by
  refine Ph.wpPh_calm hk fun K hK => ?_
  rw [if_pos hw]
  refine ⟨_, fun p => ?_, hK _ h⟩
  rw [hr p.world]
  exact ⟨rfl, hc p⟩
/-- A store of a row into the middle of a block known whole. -/
theorem run_storeAt_at (w : World) (g o : Nat) (t ty : TypeId) (cur cells : Array Value) (hg : w.heap[g]? = some (.cells cur t (0, 0))) (hi : (P.info? ty).map (·.size) = some cells.size) (hl : o + cells.size ≤ cur.size) (h1 : cells.all (·.oneCell') = true) :
    (Instr.storeAt ty (.pointer (some ⟨g, o, none⟩)) (.agg cells)).run P w = .ok () (w.setRow g (cur.toList.take o ++ cells.toList ++ cur.toList.drop (o + cells.size)).toArray) := by
  have := run_storeCells_at P g o t cells.toList 0 cur w hg (by simpa using hl) (fun v hv => (Array.all_eq_true_iff_forall_mem.1 h1) v (by simpa using hv))
  cases hq : P.info? ty with
  | none => simp [hq] at hi
  | some i =>
    have hs : cells.size = i.size := by simp [hq] at hi; omega
    simp only [Nat.add_zero, Array.length_toList] at this
    simp [Instr.storeAt, Instr.sureAddr, storeVar, sizeOf, typeInfo, hq, Value.cells, hs]
    rw [← hs]
    simpa using this
theorem wpPh_store {D : Nat → World → Prop} {ns : List Nat} {ops : Array Oper} {Q : Act → Prop} {k p : Nat} {a : Act} {o : Oper} {rest : List Oper} (hk : ns.idxOf? k = some p) (hw : Region.wanted o (yielded ops a.tmps) = true)
    (ty : TypeId) (x y : Operand) (ho : o.op = .store ty x y) (q v : Value) (hx : a.eval x = q) (hy : a.eval y = v) (hs : ∀ w, D p w → ∃ w', (Instr.storeAt ty q v).run P w = .ok () w' ∧ D (p + 1) w')
    (h : Ph.wpPh P ops D ns Q (k + 1) rest (a.put o.dst undef)) : Ph.wpPh P ops D ns Q k (o :: rest) a := by
  refine Ph.wpPh_link hk fun K hK => ⟨hw, undef, fun w hd => ?_, hK _ h⟩
  obtain ⟨w', hr, hd'⟩ := hs w hd
  unfold execOp
  simp only [ho, hx, hy, Sem.run_bind, hr, Result.andThen_ok, Sem.run_pure]
  exact ⟨rfl, hd'⟩
/-- The class of a region whose calls leave all that is older alone. -/
abbrev Old (w : World) : Nat → World → Prop := fun _ w' => Below w.heap.size w w'
theorem Old.call {w : World} {f : FuncId} {args : Array Value} {v : Value} {p : Ph.S (Old w)} (h : Calls P f args p.world fun e w'' => e = .returned v ∧ Below p.world.heap.size p.world w'') :
    Calls P f args p.world fun e w'' => e = .returned v ∧ Old w p.ph w'' :=
  h.mono fun _ _ ⟨he, hb⟩ => ⟨he, Below.trans p.is (hb.mono p.is.size)⟩
theorem Old.pure {w : World} {f : FuncId} {args : Array Value} {v : Value} {p : Ph.S (Old w)} (h : Calls P f args p.world fun e w'' => e = .returned v ∧ p.world = w'') :
    Calls P f args p.world fun e w'' => e = .returned v ∧ Old w p.ph w'' :=
  h.mono fun _ _ ⟨he, hb⟩ => ⟨he, hb ▸ p.is⟩
theorem Old.drew (w : World) : Old w 0 w.drew := (Below.refl _ _).drew
end
end Go.Proofs.Ytfekngnfjemgeaa.Row
/- The contracts of table.mayAll at its five types of element: are there at most so many, and may each be? -/
namespace Go.Proofs.Ytfekngnfjemgeaa.May
open Go.ChangeShapes Go.WideShapes Go.ChangeAt Go.RowKit
open Tab
set_option linter.unusedVariables false
set_option linter.unusedSimpArgs false
theorem chain {a b c : World} (h : Below a.heap.size a b) (k : Below b.heap.size b c) : Below a.heap.size a c := h.trans (k.mono h.size)
theorem infoP : (Try.prog.info? 24).map (·.size) = some 13 := by kernel_rfl
theorem infoG : (Try.prog.info? 36).map (·.size) = some 2 := by kernel_rfl
theorem infoD : (Try.prog.info? 39).map (·.size) = some 7 := by kernel_rfl
theorem infoR : (Try.prog.info? 41).map (·.size) = some 11 := by kernel_rfl
theorem infoB : (Try.prog.info? 43).map (·.size) = some 2 := by kernel_rfl
set_option maxHeartbeats 1000000 in
theorem mayAllP_any (m : Int) (a : Option Addr) (cap : Nat) (l : List Ph) (w : World) (h : RowOf 13 Ph.cells w ⟨a, cap⟩ l) :
    Calls Try.prog 66 #[.slice a l.length cap, .int .i64 m, .func (.func 67) #[] #[]] w fun e w' => e = .returned (.bool (decide ((l.length : Int) ≤ m) && l.all Ph.may)) ∧ Below w.heap.size w w' := by
  have h1 := h.len
  unfold maxLen at h1
  have Hr := Lib.hid h
  clear h
  by_cases hm : (l.length : Int) ≤ m
  · have hm' : decide (m < (l.length : Int)) = false := decide_eq_false (by omega)
    have Hm := Lib.hid hm
    go_enter Try.func66, Try.ntmps66
    go_wp2
    go_loopw [15] (fun i wr => ∃ k : Nat, k ≤ l.length ∧ i = .int .i64 k ∧ (l.take k).all Ph.may = true ∧ Below w.heap.size w wr) (fun i _ => l.length - (intOf i).toNat)
    case atStart => exact ⟨0, Nat.zero_le _, rfl, rfl, Below.refl _ _⟩
    case round =>
      obtain ⟨k, hk, rfl, hall, hbel⟩ := hrel
      have Hall := Lib.hid hall
      have Hb := Lib.hid hbel
      clear hall hbel
      by_cases hlt : k < l.length
      · have hv := List.getElem?_eq_getElem hlt
        generalize l[k] = v at hv
        obtain ⟨x, hx, hcell⟩ := (Hr.out.below Hb.out).at hv
        obtain rfl : a = some x := hx
        have HV := Lib.hid hv
        have HC := Lib.hid hcell
        clear hv hcell
        go_wp2_with (first | (refine Row.wpList_load_lies rfl 24 _ rfl (x.add (k * 13)) rfl v.cells _ HC.out Try.underlying24 rfl infoP ?_) | (refine Row.wpList_store_new rfl 24 _ _ rfl _ _ v.cells.toArray rfl rfl rfl infoP rfl v.one ?_) | (refine wpList_load_row rfl 24 _ rfl _ rfl _ _ _ _ (heap_alloc_new _ _) Try.underlying24 rfl infoP ?_))
        refine (mayPhase_any v _).mono ?_
        rintro e w2 ⟨rfl, hb2⟩
        have B2 := Lib.hid (chain Hb.out (chain ((Below.refl _ _).alloc (Nat.le_refl _) _) hb2))
        clear hb2
        generalize hb : Ph.may v = b
        have HB := Lib.hid hb
        clear hb
        cases b
        · go_wp2
          go_ret
          exact ⟨ret_bool (by rw [all_break (f := Ph.may) HV.out HB.out, Bool.and_false]), B2.out⟩
        · go_wp2
          go_roundw
          case rel => exact ⟨k + 1, by omega, by go_num, all_step (f := Ph.may) HV.out Hall.out HB.out, B2.out⟩
          case measure => simp [intOf]; omega
      · go_wp2
        go_ret
        exact ⟨ret_bool (by rw [all_end Hall.out hlt, decide_eq_true (by have := Hm.out; omega)]; rfl), Hb.out⟩
  · have Hm := Lib.hid hm
    go_enter Try.func66, Try.ntmps66
    go_wp2
    go_ret
    exact ⟨ret_bool (by rw [decide_eq_false (by have := Hm.out; omega)]; rfl), Below.refl _ _⟩
set_option maxHeartbeats 1000000 in
theorem mayAllG_any (m : Int) (a : Option Addr) (cap : Nat) (l : List Gr) (w : World) (h : RowOf 2 Gr.cells w ⟨a, cap⟩ l) (h2 : ∀ v ∈ l, v.ok w) :
    Calls Try.prog 68 #[.slice a l.length cap, .int .i64 m, .func (.func 69) #[] #[]] w fun e w' => e = .returned (.bool (decide ((l.length : Int) ≤ m) && l.all (fun v => groupMay v.data))) ∧ Below w.heap.size w w' := by
  have h1 := h.len
  unfold maxLen at h1
  have Hr := Lib.hid h
  clear h
  have H2 := Lib.hid h2
  clear h2
  by_cases hm : (l.length : Int) ≤ m
  · have hm' : decide (m < (l.length : Int)) = false := decide_eq_false (by omega)
    have Hm := Lib.hid hm
    go_enter Try.func68, Try.ntmps68
    go_wp2
    go_loopw [15] (fun i wr => ∃ k : Nat, k ≤ l.length ∧ i = .int .i64 k ∧ (l.take k).all (fun v => groupMay v.data) = true ∧ Below w.heap.size w wr) (fun i _ => l.length - (intOf i).toNat)
    case atStart => exact ⟨0, Nat.zero_le _, rfl, rfl, Below.refl _ _⟩
    case round =>
      obtain ⟨k, hk, rfl, hall, hbel⟩ := hrel
      have Hall := Lib.hid hall
      have Hb := Lib.hid hbel
      clear hall hbel
      by_cases hlt : k < l.length
      · have hv := List.getElem?_eq_getElem hlt
        generalize l[k] = v at hv
        obtain ⟨x, hx, hcell⟩ := (Hr.out.below Hb.out).at hv
        obtain rfl : a = some x := hx
        have HV := Lib.hid hv
        have HC := Lib.hid hcell
        clear hv hcell
        go_wp2_with (first | (refine Row.wpList_load_lies rfl 36 _ rfl (x.add (k * 2)) rfl v.cells _ HC.out Try.underlying36 rfl infoG ?_) | (refine Row.wpList_store_new rfl 36 _ _ rfl _ _ v.cells.toArray rfl rfl rfl infoG rfl v.one ?_) | (refine wpList_load_row rfl 36 _ rfl _ rfl _ _ _ _ (heap_alloc_new _ _) Try.underlying36 rfl infoG ?_))
        refine (mayGroup_any v _ (((H2.out _ (List.mem_of_getElem? HV.out)).below Hb.out).below ((Below.refl _ _).alloc (Nat.le_refl _) _))).mono ?_
        rintro e w2 ⟨rfl, hb2⟩
        have B2 := Lib.hid (chain Hb.out (chain ((Below.refl _ _).alloc (Nat.le_refl _) _) hb2))
        clear hb2
        generalize hb : groupMay v.data = b
        have HB := Lib.hid hb
        clear hb
        cases b
        · go_wp2
          go_ret
          exact ⟨ret_bool (by rw [all_break (f := (fun v => groupMay v.data)) HV.out HB.out, Bool.and_false]), B2.out⟩
        · go_wp2
          go_roundw
          case rel => exact ⟨k + 1, by omega, by go_num, all_step (f := (fun v => groupMay v.data)) HV.out Hall.out HB.out, B2.out⟩
          case measure => simp [intOf]; omega
      · go_wp2
        go_ret
        exact ⟨ret_bool (by rw [all_end Hall.out hlt, decide_eq_true (by have := Hm.out; omega)]; rfl), Hb.out⟩
  · have Hm := Lib.hid hm
    go_enter Try.func68, Try.ntmps68
    go_wp2
    go_ret
    exact ⟨ret_bool (by rw [decide_eq_false (by have := Hm.out; omega)]; rfl), Below.refl _ _⟩
set_option maxHeartbeats 1000000 in
theorem mayAllD_any (m : Int) (a : Option Addr) (cap : Nat) (l : List Det) (w : World) (h : RowOf 7 Det.cells w ⟨a, cap⟩ l) :
    Calls Try.prog 71 #[.slice a l.length cap, .int .i64 m, .func (.func 72) #[] #[]] w fun e w' => e = .returned (.bool (decide ((l.length : Int) ≤ m) && l.all Det.may)) ∧ Below w.heap.size w w' := by
  have h1 := h.len
  unfold maxLen at h1
  have Hr := Lib.hid h
  clear h
  by_cases hm : (l.length : Int) ≤ m
  · have hm' : decide (m < (l.length : Int)) = false := decide_eq_false (by omega)
    have Hm := Lib.hid hm
    go_enter Try.func71, Try.ntmps71
    go_wp2
    go_loopw [15] (fun i wr => ∃ k : Nat, k ≤ l.length ∧ i = .int .i64 k ∧ (l.take k).all Det.may = true ∧ Below w.heap.size w wr) (fun i _ => l.length - (intOf i).toNat)
    case atStart => exact ⟨0, Nat.zero_le _, rfl, rfl, Below.refl _ _⟩
    case round =>
      obtain ⟨k, hk, rfl, hall, hbel⟩ := hrel
      have Hall := Lib.hid hall
      have Hb := Lib.hid hbel
      clear hall hbel
      by_cases hlt : k < l.length
      · have hv := List.getElem?_eq_getElem hlt
        generalize l[k] = v at hv
        obtain ⟨x, hx, hcell⟩ := (Hr.out.below Hb.out).at hv
        obtain rfl : a = some x := hx
        have HV := Lib.hid hv
        have HC := Lib.hid hcell
        clear hv hcell
        go_wp2_with (first | (refine Row.wpList_load_lies rfl 39 _ rfl (x.add (k * 7)) rfl v.cells _ HC.out Try.underlying39 rfl infoD ?_) | (refine Row.wpList_store_new rfl 39 _ _ rfl _ _ v.cells.toArray rfl rfl rfl infoD rfl v.one ?_) | (refine wpList_load_row rfl 39 _ rfl _ rfl _ _ _ _ (heap_alloc_new _ _) Try.underlying39 rfl infoD ?_))
        refine (mayDetector_any v _).mono ?_
        rintro e w2 ⟨rfl, hb2⟩
        have B2 := Lib.hid (chain Hb.out (chain ((Below.refl _ _).alloc (Nat.le_refl _) _) hb2))
        clear hb2
        generalize hb : Det.may v = b
        have HB := Lib.hid hb
        clear hb
        cases b
        · go_wp2
          go_ret
          exact ⟨ret_bool (by rw [all_break (f := Det.may) HV.out HB.out, Bool.and_false]), B2.out⟩
        · go_wp2
          go_roundw
          case rel => exact ⟨k + 1, by omega, by go_num, all_step (f := Det.may) HV.out Hall.out HB.out, B2.out⟩
          case measure => simp [intOf]; omega
      · go_wp2
        go_ret
        exact ⟨ret_bool (by rw [all_end Hall.out hlt, decide_eq_true (by have := Hm.out; omega)]; rfl), Hb.out⟩
  · have Hm := Lib.hid hm
    go_enter Try.func71, Try.ntmps71
    go_wp2
    go_ret
    exact ⟨ret_bool (by rw [decide_eq_false (by have := Hm.out; omega)]; rfl), Below.refl _ _⟩
set_option maxHeartbeats 1000000 in
theorem mayAllR_any (m : Int) (a : Option Addr) (cap : Nat) (l : List Rl) (w : World) (h : RowOf 11 Rl.cells w ⟨a, cap⟩ l) :
    Calls Try.prog 73 #[.slice a l.length cap, .int .i64 m, .func (.func 74) #[] #[]] w fun e w' => e = .returned (.bool (decide ((l.length : Int) ≤ m) && l.all Rl.may)) ∧ Below w.heap.size w w' := by
  have h1 := h.len
  unfold maxLen at h1
  have Hr := Lib.hid h
  clear h
  by_cases hm : (l.length : Int) ≤ m
  · have hm' : decide (m < (l.length : Int)) = false := decide_eq_false (by omega)
    have Hm := Lib.hid hm
    go_enter Try.func73, Try.ntmps73
    go_wp2
    go_loopw [15] (fun i wr => ∃ k : Nat, k ≤ l.length ∧ i = .int .i64 k ∧ (l.take k).all Rl.may = true ∧ Below w.heap.size w wr) (fun i _ => l.length - (intOf i).toNat)
    case atStart => exact ⟨0, Nat.zero_le _, rfl, rfl, Below.refl _ _⟩
    case round =>
      obtain ⟨k, hk, rfl, hall, hbel⟩ := hrel
      have Hall := Lib.hid hall
      have Hb := Lib.hid hbel
      clear hall hbel
      by_cases hlt : k < l.length
      · have hv := List.getElem?_eq_getElem hlt
        generalize l[k] = v at hv
        obtain ⟨x, hx, hcell⟩ := (Hr.out.below Hb.out).at hv
        obtain rfl : a = some x := hx
        have HV := Lib.hid hv
        have HC := Lib.hid hcell
        clear hv hcell
        go_wp2_with (first | (refine Row.wpList_load_lies rfl 41 _ rfl (x.add (k * 11)) rfl v.cells _ HC.out Try.underlying41 rfl infoR ?_) | (refine Row.wpList_store_new rfl 41 _ _ rfl _ _ v.cells.toArray rfl rfl rfl infoR rfl v.one ?_) | (refine wpList_load_row rfl 41 _ rfl _ rfl _ _ _ _ (heap_alloc_new _ _) Try.underlying41 rfl infoR ?_))
        refine (mayRail_any v _).mono ?_
        rintro e w2 ⟨rfl, hb2⟩
        have B2 := Lib.hid (chain Hb.out (chain ((Below.refl _ _).alloc (Nat.le_refl _) _) hb2))
        clear hb2
        generalize hb : Rl.may v = b
        have HB := Lib.hid hb
        clear hb
        cases b
        · go_wp2
          go_ret
          exact ⟨ret_bool (by rw [all_break (f := Rl.may) HV.out HB.out, Bool.and_false]), B2.out⟩
        · go_wp2
          go_roundw
          case rel => exact ⟨k + 1, by omega, by go_num, all_step (f := Rl.may) HV.out Hall.out HB.out, B2.out⟩
          case measure => simp [intOf]; omega
      · go_wp2
        go_ret
        exact ⟨ret_bool (by rw [all_end Hall.out hlt, decide_eq_true (by have := Hm.out; omega)]; rfl), Hb.out⟩
  · have Hm := Lib.hid hm
    go_enter Try.func73, Try.ntmps73
    go_wp2
    go_ret
    exact ⟨ret_bool (by rw [decide_eq_false (by have := Hm.out; omega)]; rfl), Below.refl _ _⟩
set_option maxHeartbeats 1000000 in
theorem mayAllB_any (m : Int) (a : Option Addr) (cap : Nat) (l : List Bs) (w : World) (h : RowOf 2 Bs.cells w ⟨a, cap⟩ l) :
    Calls Try.prog 75 #[.slice a l.length cap, .int .i64 m, .func (.func 76) #[] #[]] w fun e w' => e = .returned (.bool (decide ((l.length : Int) ≤ m) && l.all Bs.may)) ∧ Below w.heap.size w w' := by
  have h1 := h.len
  unfold maxLen at h1
  have Hr := Lib.hid h
  clear h
  by_cases hm : (l.length : Int) ≤ m
  · have hm' : decide (m < (l.length : Int)) = false := decide_eq_false (by omega)
    have Hm := Lib.hid hm
    go_enter Try.func75, Try.ntmps75
    go_wp2
    go_loopw [15] (fun i wr => ∃ k : Nat, k ≤ l.length ∧ i = .int .i64 k ∧ (l.take k).all Bs.may = true ∧ Below w.heap.size w wr) (fun i _ => l.length - (intOf i).toNat)
    case atStart => exact ⟨0, Nat.zero_le _, rfl, rfl, Below.refl _ _⟩
    case round =>
      obtain ⟨k, hk, rfl, hall, hbel⟩ := hrel
      have Hall := Lib.hid hall
      have Hb := Lib.hid hbel
      clear hall hbel
      by_cases hlt : k < l.length
      · have hv := List.getElem?_eq_getElem hlt
        generalize l[k] = v at hv
        obtain ⟨x, hx, hcell⟩ := (Hr.out.below Hb.out).at hv
        obtain rfl : a = some x := hx
        have HV := Lib.hid hv
        have HC := Lib.hid hcell
        clear hv hcell
        go_wp2_with (first | (refine Row.wpList_load_lies rfl 43 _ rfl (x.add (k * 2)) rfl v.cells _ HC.out Try.underlying43 rfl infoB ?_) | (refine Row.wpList_store_new rfl 43 _ _ rfl _ _ v.cells.toArray rfl rfl rfl infoB rfl v.one ?_) | (refine wpList_load_row rfl 43 _ rfl _ rfl _ _ _ _ (heap_alloc_new _ _) Try.underlying43 rfl infoB ?_))
        refine (mayBus_any v _).mono ?_
        rintro e w2 ⟨rfl, hb2⟩
        have B2 := Lib.hid (chain Hb.out (chain ((Below.refl _ _).alloc (Nat.le_refl _) _) hb2))
        clear hb2
        generalize hb : Bs.may v = b
        have HB := Lib.hid hb
        clear hb
        cases b
        · go_wp2
          go_ret
          exact ⟨ret_bool (by rw [all_break (f := Bs.may) HV.out HB.out, Bool.and_false]), B2.out⟩
        · go_wp2
          go_roundw
          case rel => exact ⟨k + 1, by omega, by go_num, all_step (f := Bs.may) HV.out Hall.out HB.out, B2.out⟩
          case measure => simp [intOf]; omega
      · go_wp2
        go_ret
        exact ⟨ret_bool (by rw [all_end Hall.out hlt, decide_eq_true (by have := Hm.out; omega)]; rfl), Hb.out⟩
  · have Hm := Lib.hid hm
    go_enter Try.func75, Try.ntmps75
    go_wp2
    go_ret
    exact ⟨ret_bool (by rw [decide_eq_false (by have := Hm.out; omega)]; rfl), Below.refl _ _⟩
end Go.Proofs.Ytfekngnfjemgeaa.May
