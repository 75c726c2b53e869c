/- Plain mathematics of seconds and ticks: ten times a float64, rounded to a whole number; and of all 10,000 numbers of ticks their seconds, by calculation. -/
import Derived.Test.YtbpfknkbiaplpaaFl
import Derived.Laws.FloatArith
namespace Go.Proofs.Fl
open Ieee
set_option linter.unusedVariables false
set_option linter.unusedSimpArgs false

/-- ten, 999.9, a half -/
abbrev ten : Nat := 4621819117588971520
abbrev top : Nat := 4652006429231887155
abbrev half : Nat := 4602678819172646912

/-- the seconds that have ticks -/
def ok (s : Nat) : Bool := !isn s && decide (0 ≤ key s) && decide (key s ≤ 4652006429231887155)
theorem ok_iff (s : Nat) : ok s = true ↔ isn s = false ∧ 0 ≤ key s ∧ key s ≤ 4652006429231887155 := by
  unfold ok; simp [and_assoc]

theorem ok_fin {s : Nat} (h : ok s = true) : fin s := by
  obtain ⟨h1, h2, h3⟩ := (ok_iff s).1 h
  have := of_decide_eq_false h1
  unfold fin; unfold key at h2 h3
  split at h2 <;> simp_all <;> omega
theorem ok_rung {s : Nat} (h : ok s = true) : rung s ≤ 4652006429231887155 ∧ (sg s = true → rung s = 0) := by
  obtain ⟨h1, h2, h3⟩ := (ok_iff s).1 h
  unfold key at h2 h3
  cases hs : sg s <;> simp [hs] at h2 h3 ⊢ <;> omega

/-- the rung of ten times a number of seconds -/
def tr (s : Nat) : Nat := rungV 49 (5629499534213120 * val (rung s))
theorem mul_ten (s : Nat) (h : fin s) : D.mul ten s = some (D.word (sg s) (min (tr s) D.infRung)) := by
  obtain ⟨m, i, P, rx, hP, vx, -⟩ := read_fin s h
  unfold Format.mul
  rw [show D.read ten = .number false 5629499534213120 (-49) by decide, rx]
  unfold Datum.product
  dsimp only [Option.map_some]
  unfold Format.write
  dsimp only
  rw [nearest_eq _ _ _ P 49 (by omega), Nat.mul_assoc, vx, Bool.false_xor]
  rfl
theorem ten_mul (s : Nat) (h : fin s) : D.mul s ten = some (D.word (sg s) (min (tr s) D.infRung)) := by
  rw [← mul_ten s h]
  obtain ⟨m, i, P, rx, hP, vx, -⟩ := read_fin s h
  unfold Format.mul
  rw [show D.read ten = .number false 5629499534213120 (-49) by decide, rx]
  unfold Datum.product
  dsimp only
  rw [Nat.mul_comm, Int.add_comm, Bool.xor_comm]
theorem tr_top : tr 4652006429231887155 = 4666722622711529472 := by decide +kernel
theorem tr_mono {s t : Nat} (h : rung s ≤ rung t) : tr s ≤ tr t := rungV_mono 49 (Nat.mul_le_mul_left _ (val_le h))
theorem tr_hi {s : Nat} (h : ok s = true) : tr s ≤ 4666722622711529472 := by
  rw [← tr_top]
  exact tr_mono (ok_rung h).1

/-- ten times s, as a word -/
def xw (s : Nat) : Nat := D.word (sg s) (tr s)
theorem mul_ok {s : Nat} (h : ok s = true) : D.mul ten s = some (xw s) ∧ D.mul s ten = some (xw s) := by
  have e : min (tr s) D.infRung = tr s := Nat.min_eq_left (by have := tr_hi h; rw [inf_eq]; omega)
  rw [mul_ten s (ok_fin h), ten_mul s (ok_fin h), e]
  exact ⟨rfl, rfl⟩
theorem xw_rung {s : Nat} (h : ok s = true) : rung (xw s) = tr s := word_rung _ _ (by have := tr_hi h; omega)
theorem xw_sg {s : Nat} (h : ok s = true) : sg (xw s) = sg s := word_sg _ _ (by have := tr_hi h; omega)
theorem xw_fin {s : Nat} (h : ok s = true) : fin (xw s) := by unfold fin; rw [xw_rung h]; have := tr_hi h; omega

/-- the ticks of seconds -/
def tk (s : Nat) : Nat := rhe (val (tr s)) T
theorem val_9999 : val 4666722622711529472 = 9999 * 2 ^ T := by
  have : irung 9999 = 4666722622711529472 := by
    unfold irung; rw [T_eq]; decide +kernel
  rw [← this, val_irung 9999 (by omega)]
theorem tk_hi {s : Nat} (h : ok s = true) : tk s ≤ 9999 := by
  have h1 : tk s ≤ rhe (9999 * 2 ^ T) T := rhe_mono _ _ _ (by rw [← val_9999]; exact val_le (tr_hi h))
  have h2 : rhe (9999 * 2 ^ T) T = 9999 := by
    have := rhe_scale 9999 0 T
    rw [Nat.zero_add, rhe_zero] at this
    exact this
  omega
theorem tk_mono {s t : Nat} (h : rung s ≤ rung t) : tk s ≤ tk t := rhe_mono _ _ _ (val_le (tr_mono h))

/-- the word that RoundToEven gives of ten times s -/
def rw' (s : Nat) : Nat := D.word (sg s) (irung (tk s))
theorem round_ok {s : Nat} (h : ok s = true) : D.write ((D.read (xw s)).integral .even) = rw' s := by
  have hh := tk_hi h
  rw [integral_even _ (xw_fin h), xw_rung h, xw_sg h]
  rw [write_int _ _ (by unfold tk at hh; omega)]
  rfl
theorem tr_zero {s : Nat} (h : rung s = 0) : tr s = 0 := by unfold tr; rw [h]; decide
theorem tk_zero {s : Nat} (h : rung s = 0) : tk s = 0 := by
  unfold tk; rw [tr_zero h]
  have := rhe_scale 0 0 T
  rw [Nat.zero_add, rhe_zero, Nat.zero_mul] at this
  exact this
theorem int_ok {s : Nat} (h : ok s = true) : floatToIntVal .f64 (rw' s) .i64 = some (tk s : Int) := by
  have hh := tk_hi h
  have e : (D.read (rw' s)).toInt .zero = some (tk s : Int) := by
    by_cases hs : sg s = true
    · have h0 := tk_zero ((ok_rung h).2 hs)
      unfold rw'; rw [hs, h0]
      have : irung 0 = 0 := by unfold irung; rw [Nat.zero_mul]; decide
      rw [this]; decide
    · exact irung_toInt _ _ (by omega) (by simpa using hs)
  unfold floatToIntVal
  have e' : (FloatKind.decode .f64 (rw' s)).toInt .zero = some (tk s : Int) := e
  rw [e']
  simp only
  rw [if_pos]
  rw [show IntKind.min .i64 = -9223372036854775808 by decide, show IntKind.max .i64 = 9223372036854775807 by decide]
  omega

/-! the same by the other way: cut, and one more where the rest is more than a half -/
/-- cut -/
def qk (s : Nat) : Nat := val (tr s) / 2 ^ T
theorem cut_ok {s : Nat} (h : ok s = true) : floatToIntVal .f64 (xw s) .i64 = some (qk s : Int) := by
  have hh : qk s ≤ tk s := rhe_lo _ _
  have hh' := tk_hi h
  have e : (D.read (xw s)).toInt .zero = some (qk s : Int) := by
    by_cases hs : sg s = true
    · have h0 := tr_zero ((ok_rung h).2 hs)
      unfold xw qk; rw [hs, h0]
      rw [show val 0 = 0 by decide, Nat.zero_div]
      decide
    · rw [toInt_zero _ (xw_fin h) (by rw [xw_sg h]; simpa using hs), xw_rung h]; rfl
  unfold floatToIntVal
  have e' : (FloatKind.decode .f64 (xw s)).toInt .zero = some (qk s : Int) := e
  rw [e']
  simp only
  rw [if_pos]
  rw [show IntKind.min .i64 = -9223372036854775808 by decide, show IntKind.max .i64 = 9223372036854775807 by decide]
  omega
theorem float_of (n : Nat) (h : n < 9007199254740992) : floatOfInt .f64 (n : Int) = irung n := by
  show D.write (.number (decide ((n : Int) < 0)) (n : Int).natAbs 0) = _
  rw [show (n : Int).natAbs = n by omega, write_int _ n h, decide_eq_false (by omega)]
  rfl
/-- what is left, as a word -/
def lw (s : Nat) : Nat := (D.sub (xw s) (irung (qk s))).getD 0
theorem val_half : val half * 2 = 2 ^ T := by
  have h1 : val 4607182418800017408 = 1 * 2 ^ T := by
    have : irung 1 = 4607182418800017408 := by unfold irung; rw [T_eq]; decide +kernel
    rw [← this, val_irung 1 (by omega)]
  rw [Nat.one_mul] at h1
  rw [← h1]
  unfold val
  rw [if_neg (by decide), if_neg (by decide), show (half % 4503599627370496) = 0 by decide, show (4607182418800017408 % 4503599627370496) = 0 by decide,
    show 4607182418800017408 / 4503599627370496 - 1 = (half / 4503599627370496 - 1) + 1 by decide, Nat.pow_succ, Nat.mul_assoc]
theorem rest_ok {s : Nat} (h : ok s = true) : D.sub (xw s) (irung (qk s)) = some (lw s) ∧ isn (lw s) = false
    ∧ (decide (key half < key (lw s)) = decide (2 ^ T < 2 * (val (tr s) % 2 ^ T))) ∧ (decide (key (lw s) = key half) = (2 ^ T == 2 * (val (tr s) % 2 ^ T))) := by
  have hq : qk s ≤ 9999 := Nat.le_trans (rhe_lo _ _) (tk_hi h)
  have hi := irung_lt (qk s) (by omega)
  have ri : rung (irung (qk s)) = irung (qk s) := by unfold rung; omega
  have si : sg (irung (qk s)) = false := by unfold sg; simp; omega
  obtain ⟨sn, he, hneg⟩ := sub_fin (xw s) (irung (qk s)) (xw_fin h) (by unfold fin; rw [ri]; exact hi)
  have hv2 : sval (irung (qk s)) = ((qk s * 2 ^ T : Nat) : Int) := by
    unfold sval; rw [si, ri, val_irung _ (by omega)]; rfl
  have hv1 : sval (xw s) = (val (tr s) : Int) := by
    unfold sval; rw [xw_sg h, xw_rung h]
    by_cases hs : sg s = true
    · rw [tr_zero ((ok_rung h).2 hs), hs]; decide
    · simp [hs]
  have hdm := Nat.div_add_mod (val (tr s)) (2 ^ T)
  have hd : sval (xw s) - sval (irung (qk s)) = ((val (tr s) % 2 ^ T : Nat) : Int) := by
    rw [hv1, hv2]; unfold qk; rw [Nat.mul_comm (val (tr s) / 2 ^ T)]; omega
  rw [hd] at he hneg
  rw [show ((val (tr s) % 2 ^ T : Nat) : Int).natAbs = val (tr s) % 2 ^ T by omega] at he
  -- what is left has at most 53 binary digits
  have thinF : (val (tr s) % 2 ^ T) % 2 ^ ((val (tr s) % 2 ^ T).log2 - 52) = 0 := by
    have e : ∃ c e, c < 9007199254740992 ∧ val (tr s) = c * 2 ^ e := by
      unfold val
      split
      · exact ⟨tr s, 0, by omega, by simp⟩
      · exact ⟨_, _, by have := Nat.mod_lt (tr s) (show 0 < 4503599627370496 by decide); omega, rfl⟩
    obtain ⟨c, e, hc, he⟩ := e
    rw [he]
    by_cases hT : T ≤ e
    · have : c * 2 ^ e % 2 ^ T = 0 := Nat.mod_eq_zero_of_dvd (Nat.dvd_trans (Nat.pow_dvd_pow 2 hT) (Nat.dvd_mul_left _ _))
      rw [this]; rfl
    · rw [show T = (T - e) + e by omega, Nat.pow_add, Nat.mul_mod_mul_right]
      exact thin _ e (Nat.lt_of_le_of_lt (Nat.mod_le _ _) hc)
  have hval := val_rungV _ thinF
  have hmod : val (tr s) % 2 ^ T < 2 ^ T := Nat.mod_lt _ (Nat.two_pow_pos T)
  have hlt : rungV 0 (val (tr s) % 2 ^ T) < 9218868437227405312 := by
    refine Nat.lt_of_not_le fun hh => ?_
    have h1 := val_le hh
    rw [hval] at h1
    have h2 := lt_val_inf (val (tr s) % 2 ^ T) (Nat.lt_of_lt_of_le hmod (Nat.pow_le_pow_right (by decide) (by omega)))
    omega
  rw [Nat.min_eq_left (by rw [inf_eq]; omega)] at he
  have hlw : lw s = D.word sn (rungV 0 (val (tr s) % 2 ^ T)) := by unfold lw; rw [he]; rfl
  have hr : rung (lw s) = rungV 0 (val (tr s) % 2 ^ T) := by rw [hlw]; exact word_rung _ _ (by omega)
  have hs2 : sg (lw s) = sn := by rw [hlw]; exact word_sg _ _ (by omega)
  have hkey : key (lw s) = (rungV 0 (val (tr s) % 2 ^ T) : Int) := by
    unfold key; rw [hr, hs2]
    by_cases h0 : val (tr s) % 2 ^ T = 0
    · rw [h0, show rungV 0 0 = 0 by decide]; simp
    · have := hneg (by omega)
      rw [decide_eq_false (by omega)] at this
      rw [this]; rfl
  have hkh : key half = 4602678819172646912 := by decide
  have hvh := val_half
  refine ⟨by rw [he, hlw], ?_, ?_, ?_⟩
  · unfold isn; rw [hr]; exact decide_eq_false (by omega)
  · rw [hkey, hkh]
    apply decide_eq_decide.2
    constructor
    · intro hh
      have : val half < val (rungV 0 (val (tr s) % 2 ^ T)) := val_lt (by unfold half; omega)
      rw [hval] at this; omega
    · intro hh
      have : ¬ rungV 0 (val (tr s) % 2 ^ T) ≤ half := fun hle => by
        have := val_le hle; rw [hval] at this; omega
      unfold half at this; omega
  · rw [hkey, hkh, Bool.eq_iff_iff, decide_eq_true_iff, beq_iff_eq]
    constructor
    · intro hh
      have : rungV 0 (val (tr s) % 2 ^ T) = half := by unfold half; omega
      rw [this] at hval; omega
    · intro hh
      have h1 : val (rungV 0 (val (tr s) % 2 ^ T)) = val half := by rw [hval]; omega
      rcases Nat.lt_trichotomy (rungV 0 (val (tr s) % 2 ^ T)) half with hl | hl | hl
      · have := val_lt hl; omega
      · unfold half at hl; omega
      · have := val_lt hl; omega
/-- both ways give the same -/
theorem tk_qk (s : Nat) : tk s = qk s + (decide (2 ^ T < 2 * (val (tr s) % 2 ^ T)) || (2 ^ T == 2 * (val (tr s) % 2 ^ T) && qk s % 2 == 1)).toNat := rfl

/-! all seconds of whole ticks, by calculation -/
/-- n / 10 -/
def ofB (n : Nat) : Nat := (D.div (floatOfInt .f64 (n : Int)) ten).getD 0
/-- 0.03 -/
abbrev c03 : Nat := 4584304132692975288
/-- a number first made a numeral, then handed on -/
def force (x : Nat) (f : Nat → Bool) : Bool := Nat.rec (f 0) (fun n _ => f (n + 1)) x
theorem force_eq (x : Nat) (f : Nat → Bool) : force x f = f x := by cases x <;> rfl
/-- the rung, its place guessed and held against the number -/
def rungG (E v g : Nat) (f : Nat → Bool) : Bool :=
  force v fun v => force (if v < 2 ^ (g + 52) then g - 1 else if v < 2 ^ (g + 53) then g else g + 1) fun L =>
    decide (E ≤ L) && decide (2 ^ (L + 52) ≤ v) && decide (v < 2 ^ (L + 53)) &&
    force (v / 2 ^ L) fun q => force (2 * (v % 2 ^ L)) fun r =>
      force ((L - E) * 4503599627370496 + (q + (decide (2 ^ L < r) || (2 ^ L == r && q % 2 == 1)).toNat)) f
theorem rungV_of (E v L : Nat) (hE : E ≤ L) (h1 : 2 ^ (L + 52) ≤ v) (h2 : v < 2 ^ (L + 53)) : rungV E v = (L - E) * 4503599627370496 + rhe v L := by
  have hv : v ≠ 0 := by have := Nat.two_pow_pos (L + 52); omega
  have hl : v.log2 = L + 52 := (Nat.log2_eq_iff hv).2 ⟨h1, h2⟩
  unfold rungV
  rw [hl, show max (L + 52 - 52) E = L by omega]
theorem rungG_eq {E v g : Nat} {f : Nat → Bool} (h : rungG E v g f = true) : f (rungV E v) = true := by
  unfold rungG at h; simp only [force_eq, Bool.and_eq_true, decide_eq_true_iff] at h
  generalize (if v < 2 ^ (g + 52) then g - 1 else if v < 2 ^ (g + 53) then g else g + 1) = L at h
  obtain ⟨⟨⟨h0, h1⟩, h2⟩, h3⟩ := h
  rw [rungV_of E v L h0 h1 h2]
  exact h3
/-- the ticks of a rung -/
def tkR (r : Nat) : Nat := rhe (val (rungV 49 (5629499534213120 * val r))) T
theorem tk_tkR (s : Nat) : tk s = tkR (rung s) := rfl
def tkG (P r : Nat) (f : Nat → Bool) : Bool :=
  rungG 49 (5629499534213120 * val r) (r / 4503599627370496 + 51) fun t => force (val t) fun v => force (v / 2 ^ P) fun q => force (2 * (v % 2 ^ P)) fun r =>
  f (q + (decide (2 ^ P < r) || (2 ^ P == r && q % 2 == 1)).toNat)
theorem tkG_eq {r : Nat} {f : Nat → Bool} (h : tkG T r f = true) : f (tkR r) = true := by
  unfold tkG at h
  have h1 := rungG_eq h
  simp only [force_eq] at h1
  exact h1
def chkP (P k : Nat) : Bool := force (ofB k) fun s => force (val s) fun V =>
  decide (s ≤ 4652006429231887155) && decide (val c03 ≤ V) && (rungG 0 (V - val c03) (s / 4503599627370496 - 1) fun r1 => tkG P r1 (fun t => t == k))
    && (rungG 0 (V + val c03) (s / 4503599627370496 - 1) fun r2 => (decide (4652006429231887155 < r2 ∧ r2 < 9218868437227405312 ∧ k = 9999) || (decide (r2 ≤ 4652006429231887155) && tkG P r2 fun t => t == k)))
def chk (k : Nat) : Bool := chkP 1074 k
theorem chk_T (k : Nat) : chk k = chkP T k := rfl
def allB : Nat → (Nat → Bool) → Bool
  | 0, _ => true
  | n + 1, p => p n && allB n p
theorem allB_at {n : Nat} {p : Nat → Bool} (h : allB n p = true) : ∀ i, i < n → p i = true := by
  induction n with
  | zero => intro i hi; omega
  | succ n ih =>
    simp [allB] at h
    intro i hi
    by_cases e : i = n
    · subst e; exact h.1
    · exact ih h.2 i (by omega)

theorem tkR_mono {r r' : Nat} (h : r ≤ r') : tkR r ≤ tkR r' := rhe_mono _ _ _ (val_le (rungV_mono 49 (Nat.mul_le_mul_left _ (val_le h))))
theorem pos_word {r : Nat} (h : r < 9223372036854775808) : rung r = r ∧ sg r = false := by
  unfold rung sg; simp; omega
theorem ok_pos {r : Nat} (h : r ≤ 4652006429231887155) : ok r = true := by
  obtain ⟨h1, h2⟩ := pos_word (r := r) (by omega)
  rw [ok_iff]
  unfold isn key
  rw [h1, h2]
  simp; omega
theorem key_pos {r : Nat} (h : r < 9223372036854775808) : key r = r := by
  obtain ⟨h1, h2⟩ := pos_word h
  unfold key; rw [h1, h2]; rfl
/-- what a number's check says -/
theorem chk_says {k : Nat} (h : chk k = true) :
    D.div (floatOfInt .f64 (k : Int)) ten = some (ofB k) ∧ ofB k ≤ 4652006429231887155 ∧ tk (ofB k) = k
    ∧ (∃ o, D.sub (ofB k) c03 = some o ∧ o ≤ 4652006429231887155 ∧ tk o = k)
    ∧ (∃ o, D.add (ofB k) c03 = some o ∧ o < 9218868437227405312 ∧ (4652006429231887155 < o ∨ o ≤ 4652006429231887155 ∧ tk o = k)) := by
  rw [chk_T] at h
  unfold chkP at h
  simp only [force_eq, Bool.and_eq_true, decide_eq_true_iff] at h
  obtain ⟨⟨⟨h0, h1⟩, h2⟩, h3⟩ := h
  have g2 := tkG_eq (rungG_eq h2)
  have g3 := rungG_eq h3
  simp only [beq_iff_eq, Bool.or_eq_true, Bool.and_eq_true, decide_eq_true_iff] at g2 g3
  clear h2 h3
  have hC : val 0 < val c03 := val_lt (by decide)
  have hz0 : val 0 = 0 := rfl
  have hs : D.div (floatOfInt .f64 (k : Int)) ten = some (ofB k) := by
    unfold ofB at h1 ⊢
    cases hd : D.div (floatOfInt .f64 (k : Int)) ten with
    | none => rw [hd] at h1; exact absurd h1 (Nat.not_le.2 hC)
    | some s => rfl
  have hfc : fin c03 := by unfold fin; decide
  have vc : sval c03 = (val c03 : Int) := by
    obtain ⟨a, b⟩ := pos_word (r := c03) (by decide)
    unfold sval; rw [a, b]; rfl
  have nek : k ≠ 0 ∨ ofB k ≠ c03 := by
    by_cases hk : k = 0
    · subst hk; exact .inr (by decide +kernel)
    · exact .inl hk
  generalize ofB k = s at *
  obtain ⟨rs, ss⟩ := pos_word (r := s) (by omega)
  have hfs : fin s := by unfold fin; rw [rs]; omega
  have vs : sval s = (val s : Int) := by unfold sval; rw [rs, ss]; rfl
  have hinj : val s = val c03 → s = c03 := fun e => by
    rcases Nat.lt_trichotomy s c03 with hl | hl | hl
    · exact absurd (val_lt hl) (by rw [e]; exact Nat.lt_irrefl _)
    · exact hl
    · exact absurd (val_lt hl) (by rw [e]; exact Nat.lt_irrefl _)
  -- the rungs
  have m1 : rungV 0 (val s - val c03) ≤ s := by
    have := rungV_mono 0 (Nat.sub_le (val s) (val c03))
    rw [rungV_val] at this; exact this
  have m2 : s ≤ rungV 0 (val s + val c03) := by
    have := rungV_mono 0 (Nat.le_add_right (val s) (val c03))
    rw [rungV_val] at this; exact this
  obtain ⟨s1, he1, hn1⟩ := sub_fin s c03 hfs hfc
  obtain ⟨s2, he2, hn2⟩ := add_fin s c03 hfs hfc
  rw [vs, vc] at he1 hn1 he2 hn2
  clear vs vc
  generalize val c03 = C at *
  have hz : val s - C = 0 → rungV 0 (val s - C) = 0 := fun e => by rw [e]; rfl
  generalize val s = V at *
  have i1 : ((V : Int) - (C : Int)).natAbs = V - C := by omega
  have i2 : ((V : Int) + (C : Int)).natAbs = V + C := by omega
  rw [i1] at he1
  rw [i2] at he2
  generalize rungV 0 (V - C) = r1 at *
  generalize rungV 0 (V + C) = r2 at *
  have hr2 : r2 < 9218868437227405312 := by
    rcases g3 with h | h <;> omega
  rw [Nat.min_eq_left (by rw [inf_eq]; omega)] at he1 he2
  have p1 := pos_word (r := r1) (by omega)
  have p2 := pos_word (r := r2) (by omega)
  have one : D.sub s c03 = some r1 := by
    rw [he1]
    by_cases e : (V : Int) - (C : Int) = 0
    · exfalso
      have e0 := hz (by omega)
      rw [e0, show tkR 0 = 0 from tk_zero (s := 0) rfl] at g2
      rcases nek with h | h
      · omega
      · exact h (hinj (by omega))
    · have := hn1 e
      rw [decide_eq_false (by omega)] at this
      rw [this]; rfl
  have two : D.add s c03 = some r2 := by
    rw [he2]
    have := hn2 (by omega)
    rw [decide_eq_false (by omega)] at this
    rw [this]; rfl
  have k1 : tk r1 = k := by rw [tk_tkR, p1.1]; exact g2
  have k2 : r2 ≤ 4652006429231887155 → tk r2 = k := by
    intro hle
    rw [tk_tkR, p2.1]
    rcases g3 with h | h
    · omega
    · have hh := tkG_eq (f := fun t => t == k) h.2
      simp only [beq_iff_eq] at hh
      exact hh
  refine ⟨hs, h0, ?_, ⟨r1, one, by omega, k1⟩, ⟨r2, two, hr2, ?_⟩⟩
  · have a1 : tkR r1 ≤ tkR s := tkR_mono m1
    have a3 : tk s ≤ 9999 := tk_hi (ok_pos h0)
    rw [tk_tkR, p1.1] at k1
    rw [tk_tkR, rs] at a3 ⊢
    by_cases hle : r2 ≤ 4652006429231887155
    · have a2 : tkR s ≤ tkR r2 := tkR_mono m2
      have := k2 hle
      rw [tk_tkR, p2.1] at this
      omega
    · rcases g3 with h | h <;> omega
  · by_cases hle : r2 ≤ 4652006429231887155
    · exact .inr ⟨hle, k2 hle⟩
    · exact .inl (by omega)
theorem blk (a n b : Nat) (e : a + n = b) (h : allB n (fun i => chk (a + i)) = true) : ∀ k, a ≤ k → k < b → chk k = true := by
  intro k h1 h2
  have := allB_at h (k - a) (by omega)
  rw [show a + (k - a) = k by omega] at this
  exact this
theorem join {a b c : Nat} (h1 : ∀ k, a ≤ k → k < b → chk k = true) (h2 : ∀ k, b ≤ k → k < c → chk k = true) : ∀ k, a ≤ k → k < c → chk k = true := by
  intro k h3 h4
  by_cases h : k < b
  · exact h1 k h3 h
  · exact h2 k (by omega) h4
end Go.Proofs.Fl
