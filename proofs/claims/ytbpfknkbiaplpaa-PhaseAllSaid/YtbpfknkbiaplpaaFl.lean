/- Plain mathematics of float64 words: a word that is no NaN has a key, an integer by which words are ordered; rounding to the nearest word is monotone and exact where it can be. -/
import Ieee.Arith
import Derived.Laws.FloatBits
namespace Go.Proofs.Fl
open Ieee
set_option linter.unusedVariables false
set_option linter.unusedSimpArgs false

abbrev D : Format := Ieee.double
theorem lp_eq : D.leastPlace = -1074 := by decide
theorem binade_eq : D.binade = 4503599627370496 := by decide
theorem inf_eq : D.infRung = 9218868437227405312 := by decide
theorem sw_eq : D.signWeight = 9223372036854775808 := by decide
theorem fb_eq : D.fractionBits = 52 := rfl

/-! rounding a natural number at a binary place -/
/-- v / 2^d, rounded to the nearest, between two to the even one -/
def rhe (v d : Nat) : Nat := v / 2 ^ d + (decide (2 ^ d < 2 * (v % 2 ^ d)) || (2 ^ d == 2 * (v % 2 ^ d) && v / 2 ^ d % 2 == 1)).toNat

theorem bt_le (b : Bool) : b.toNat ≤ 1 := by cases b <;> decide

theorem rhe_lo (v d : Nat) : v / 2 ^ d ≤ rhe v d := Nat.le_add_right _ _
theorem rhe_hi (v d : Nat) : rhe v d ≤ v / 2 ^ d + 1 := Nat.add_le_add_left (bt_le _) _
theorem rhe_zero (v : Nat) : rhe v 0 = v := by
  unfold rhe; simp [Nat.mod_one]
theorem rhe_exact (v d : Nat) (h : v % 2 ^ d = 0) : rhe v d = v / 2 ^ d := by
  have hp : 0 < 2 ^ d := Nat.two_pow_pos d
  unfold rhe; rw [h]
  simp

/-- monotone at one place -/
theorem rhe_mono (v v' d : Nat) (h : v ≤ v') : rhe v d ≤ rhe v' d := by
  have hp : 0 < 2 ^ d := Nat.two_pow_pos d
  have hq : v / 2 ^ d ≤ v' / 2 ^ d := Nat.div_le_div_right h
  by_cases e : v / 2 ^ d = v' / 2 ^ d
  · have h1 := Nat.div_add_mod v (2 ^ d)
    have h2 := Nat.div_add_mod v' (2 ^ d)
    have hr : v % 2 ^ d ≤ v' % 2 ^ d := by rw [e] at h1; omega
    unfold rhe
    rw [e]
    refine Nat.add_le_add_left ?_ _
    generalize v % 2 ^ d = r at *
    generalize v' % 2 ^ d = r' at *
    generalize 2 ^ d = g at *
    by_cases c1 : g < 2 * r'
    · rw [decide_eq_true c1]; simp; exact bt_le _
    · have c2 : ¬ g < 2 * r := by omega
      rw [decide_eq_false c1, decide_eq_false c2]
      by_cases c3 : g = 2 * r
      · have c4 : g = 2 * r' := by omega
        have : r = r' := by omega
        subst this; exact Nat.le_refl _
      · have c4 : (g == 2 * r) = false := beq_eq_false_iff_ne.2 c3
        rw [c4]; simp
  · exact Nat.le_trans (rhe_hi v d) (Nat.le_trans (by omega) (rhe_lo v' d))

/-- a common power of two falls out -/
theorem rhe_scale (v d k : Nat) : rhe (v * 2 ^ k) (d + k) = rhe v d := by
  have hk : 0 < 2 ^ k := Nat.two_pow_pos k
  unfold rhe
  rw [Nat.pow_add, Nat.mul_div_mul_right _ _ hk, Nat.mul_mod_mul_right]
  have e1 : decide (2 ^ d * 2 ^ k < 2 * (v % 2 ^ d * 2 ^ k)) = decide (2 ^ d < 2 * (v % 2 ^ d)) := by
    rw [← Nat.mul_assoc]; exact decide_eq_decide.2 (Nat.mul_lt_mul_right hk)
  have e2 : (2 ^ d * 2 ^ k == 2 * (v % 2 ^ d * 2 ^ k)) = (2 ^ d == 2 * (v % 2 ^ d)) := by
    rw [← Nat.mul_assoc, Bool.eq_iff_iff, beq_iff_eq, beq_iff_eq]
    exact ⟨fun h => Nat.eq_of_mul_eq_mul_right hk h, fun h => congrArg (· * 2 ^ k) h⟩
  rw [e1, e2]

/-- what 'cut' gives, to the even one -/
theorem cut_even (neg : Bool) (n drop : Nat) : Toward.even.cut neg n drop = rhe n drop := by
  have key : ∀ g, g = drop ∨ (g ≤ drop ∧ n.log2 + 2 ≤ g) → rhe n g = rhe n drop := by
    intro g hg
    rcases hg with rfl | ⟨h1, h2⟩
    · rfl
    · have small : ∀ e, n.log2 + 2 ≤ e → rhe n e = 0 := by
        intro e he
        have hn : n < 2 ^ (n.log2 + 1) := Nat.lt_log2_self
        have hpe : 2 ^ (n.log2 + 2) ≤ 2 ^ e := Nat.pow_le_pow_right (by decide) he
        have hs : 2 ^ (n.log2 + 2) = 2 ^ (n.log2 + 1) * 2 := Nat.pow_succ ..
        unfold rhe
        rw [Nat.div_eq_of_lt (by omega), Nat.mod_eq_of_lt (by omega)]
        have c1 : ¬ 2 ^ e < 2 * n := by omega
        have c2 : ¬ 2 ^ e = 2 * n := by omega
        simp [c1]
      rw [small g h2, small drop (by omega)]
  have h := key (min drop (n.log2 + 2)) (by omega)
  rw [← h]
  unfold Toward.cut rhe
  simp only [Nat.one_shiftLeft]

theorem cut_zero (neg : Bool) (n drop : Nat) : Toward.zero.cut neg n drop = n / 2 ^ drop := by
  unfold Toward.cut
  simp only [Nat.one_shiftLeft, Bool.toNat_false, Nat.add_zero]
  by_cases h : drop ≤ n.log2 + 2
  · rw [Nat.min_eq_left h]
  · rw [Nat.min_eq_right (by omega)]
    have hn : n < 2 ^ (n.log2 + 1) := Nat.lt_log2_self
    have p1 : 2 ^ (n.log2 + 1) ≤ 2 ^ (n.log2 + 2) := Nat.pow_le_pow_right (by decide) (by omega)
    have p2 : 2 ^ (n.log2 + 2) ≤ 2 ^ drop := Nat.pow_le_pow_right (by decide) (by omega)
    rw [Nat.div_eq_of_lt (by omega), Nat.div_eq_of_lt (by omega)]

/-! the rung of a number v * 2^(-1074 - E) -/
def rungV (E v : Nat) : Nat := (max (v.log2 - 52) E - E) * 4503599627370496 + rhe v (max (v.log2 - 52) E)

theorem log2_mul_pow (m P : Nat) (h : m ≠ 0) : (m * 2 ^ P).log2 = m.log2 + P := by
  have hp : m * 2 ^ P ≠ 0 := Nat.mul_ne_zero h (by have := Nat.two_pow_pos P; omega)
  rw [Nat.log2_eq_iff hp]
  have h1 := Nat.log2_self_le h
  have h2 : m < 2 ^ (m.log2 + 1) := Nat.lt_log2_self
  have hP := Nat.two_pow_pos P
  rw [Nat.add_right_comm, Nat.pow_add, Nat.pow_add 2 (m.log2 + 1)]
  exact ⟨Nat.mul_le_mul_right _ h1, (Nat.mul_lt_mul_right hP).2 h2⟩

theorem nearest_eq (neg : Bool) (m : Nat) (p : Int) (P E : Nat) (h : p + 1074 + E = P) : D.nearest neg m p = D.word neg (min (rungV E (m * 2 ^ P)) D.infRung) := by
  unfold Format.nearest
  by_cases hm : m = 0
  · subst hm
    rw [if_pos rfl, Nat.zero_mul]
    have : rungV E 0 = 0 := by
      unfold rungV rhe
      have e : max (Nat.log2 0 - 52) E = E := by rw [Nat.log2_zero]; omega
      rw [e, Nat.zero_div, Nat.zero_mod]
      simp
    rw [this]; rfl
  rw [if_neg hm]
  dsimp only
  rw [lp_eq, binade_eq, fb_eq]
  refine congrArg (fun t => D.word neg (min t D.infRung)) ?_
  have hl : (m * 2 ^ P).log2 = m.log2 + P := log2_mul_pow m P hm
  have hlast : max (p + (m.log2 : Int) - ((52 : Nat) : Int)) (-1074) = ((max ((m * 2 ^ P).log2 - 52) E : Nat) : Int) - 1074 - E := by
    rw [hl]; omega
  rw [hlast, cut_even]
  unfold rungV
  generalize max ((m * 2 ^ P).log2 - 52) E = L at *
  have a1 : ((L : Int) - 1074 - (E : Int) - -1074).toNat = L - E := by omega
  rw [a1]
  congr 1
  rw [Nat.shiftLeft_eq]
  by_cases hPL : L ≤ P
  · have a2 : (p - ((L : Int) - 1074 - E)).toNat = P - L := by omega
    have a3 : ((L : Int) - 1074 - E - p).toNat = 0 := by omega
    rw [a2, a3, rhe_zero]
    have hx : m * 2 ^ P = m * 2 ^ (P - L) * 2 ^ L := by rw [Nat.mul_assoc, ← Nat.pow_add]; congr 2; omega
    rw [hx]
    have := rhe_scale (m * 2 ^ (P - L)) 0 L
    rw [Nat.zero_add] at this
    rw [this, rhe_zero]
  · have a2 : (p - ((L : Int) - 1074 - E)).toNat = 0 := by omega
    have a3 : ((L : Int) - 1074 - E - p).toNat = L - P := by omega
    rw [a2, a3, Nat.pow_zero, Nat.mul_one]
    have := rhe_scale m (L - P) P
    rw [show L - P + P = L by omega] at this
    exact this.symm

theorem log2_mono {a b : Nat} (h : a ≤ b) : a.log2 ≤ b.log2 := by
  by_cases ha : a = 0
  · subst ha; rw [Nat.log2_zero]; exact Nat.zero_le _
  · exact (Nat.le_log2 (by omega)).2 (Nat.le_trans (Nat.log2_self_le ha) h)

theorem rungV_mono (E : Nat) {v v' : Nat} (h : v ≤ v') : rungV E v ≤ rungV E v' := by
  have hl := log2_mono h
  unfold rungV
  by_cases e : max (v.log2 - 52) E = max (v'.log2 - 52) E
  · rw [e]; exact Nat.add_le_add_left (rhe_mono _ _ _ h) _
  · -- the place is higher: v' is normal there
    have hlt : max (v.log2 - 52) E < max (v'.log2 - 52) E := by omega
    have e' : max (v'.log2 - 52) E = v'.log2 - 52 := by omega
    have h52 : 52 < v'.log2 := by omega
    rw [e']
    have hv0 : v' ≠ 0 := by intro h0; subst h0; rw [Nat.log2_zero] at h52; omega
    -- kept' is at least 2^52
    have k' : 4503599627370496 ≤ rhe v' (v'.log2 - 52) := by
      refine Nat.le_trans ?_ (rhe_lo _ _)
      rw [Nat.le_div_iff_mul_le (Nat.two_pow_pos _)]
      have := Nat.log2_self_le hv0
      rw [show (4503599627370496 : Nat) = 2 ^ 52 by decide, ← Nat.pow_add, show 52 + (v'.log2 - 52) = v'.log2 by omega]
      exact this
    -- kept is at most 2^53
    have k : rhe v (max (v.log2 - 52) E) ≤ 9007199254740992 := by
      have hv : v < 2 ^ (v.log2 + 1) := Nat.lt_log2_self
      have : v / 2 ^ max (v.log2 - 52) E < 9007199254740992 := by
        rw [Nat.div_lt_iff_lt_mul (Nat.two_pow_pos _)]
        refine Nat.lt_of_lt_of_le hv ?_
        rw [show (9007199254740992 : Nat) = 2 ^ 53 by decide, ← Nat.pow_add]
        exact Nat.pow_le_pow_right (by decide) (by omega)
      have := rhe_hi v (max (v.log2 - 52) E)
      omega
    have g1 : E ≤ max (v.log2 - 52) E := by omega
    have g2 : max (v.log2 - 52) E < v'.log2 - 52 := by omega
    clear hlt e' e
    generalize max (v.log2 - 52) E = L at *
    generalize v'.log2 - 52 = L' at *
    have hm : (L - E + 1) * 4503599627370496 ≤ (L' - E) * 4503599627370496 := Nat.mul_le_mul_right _ (by omega)
    rw [Nat.add_mul] at hm
    omega

/-! the value of a rung, times 2^1074 -/
def val (r : Nat) : Nat := if r < 4503599627370496 then r else (4503599627370496 + r % 4503599627370496) * 2 ^ (r / 4503599627370496 - 1)

theorem val_lt {r r' : Nat} (h : r < r') : val r < val r' := by
  unfold val
  by_cases h1 : r < 4503599627370496
  · rw [if_pos h1]
    by_cases h2 : r' < 4503599627370496
    · rw [if_pos h2]; exact h
    · rw [if_neg h2]
      have := Nat.two_pow_pos (r' / 4503599627370496 - 1)
      have : (4503599627370496 + r' % 4503599627370496) * 1 ≤ (4503599627370496 + r' % 4503599627370496) * 2 ^ (r' / 4503599627370496 - 1) := Nat.mul_le_mul_left _ this
      omega
  · have h2 : ¬ r' < 4503599627370496 := by omega
    rw [if_neg h1, if_neg h2]
    have hq : r / 4503599627370496 ≤ r' / 4503599627370496 := Nat.div_le_div_right (by omega)
    by_cases e : r / 4503599627370496 = r' / 4503599627370496
    · rw [e]; exact (Nat.mul_lt_mul_right (Nat.two_pow_pos _)).2 (by omega)
    · have hm : r % 4503599627370496 < 4503599627370496 := Nat.mod_lt _ (by decide)
      have hm' : r' % 4503599627370496 < 4503599627370496 := Nat.mod_lt _ (by decide)
      have p1 : 2 ^ (r / 4503599627370496) ≤ 2 ^ (r' / 4503599627370496 - 1) := Nat.pow_le_pow_right (by decide) (by omega)
      have p0 : 2 ^ (r / 4503599627370496) = 2 ^ (r / 4503599627370496 - 1) * 2 := by
        rw [← Nat.pow_succ]; congr 1; omega
      have hpos := Nat.two_pow_pos (r / 4503599627370496 - 1)
      have s1 : (4503599627370496 + r % 4503599627370496) * 2 ^ (r / 4503599627370496 - 1) < 9007199254740992 * 2 ^ (r / 4503599627370496 - 1) := (Nat.mul_lt_mul_right hpos).2 (by omega)
      have s2 : 4503599627370496 * 2 ^ (r' / 4503599627370496 - 1) ≤ (4503599627370496 + r' % 4503599627370496) * 2 ^ (r' / 4503599627370496 - 1) := Nat.mul_le_mul_right _ (by omega)
      omega
theorem val_le {r r' : Nat} (h : r ≤ r') : val r ≤ val r' := by
  rcases Nat.eq_or_lt_of_le h with rfl | h
  · exact Nat.le_refl _
  · exact Nat.le_of_lt (val_lt h)
theorem val_cmp (r r' : Nat) : compare (val r) (val r') = compare r r' := by
  rcases Nat.lt_trichotomy r r' with h | rfl | h
  · rw [Nat.compare_eq_lt.2 h, Nat.compare_eq_lt.2 (val_lt h)]
  · simp
  · rw [Nat.compare_eq_gt.2 h, Nat.compare_eq_gt.2 (val_lt h)]

/-- a number of at most 53 binary digits is what its rung stands for -/
theorem val_rungV (v : Nat) (h : v % 2 ^ (v.log2 - 52) = 0) : val (rungV 0 v) = v := by
  unfold rungV
  rw [show max (v.log2 - 52) 0 = v.log2 - 52 by omega, Nat.sub_zero, rhe_exact _ _ h]
  have hdm := Nat.div_add_mod v (2 ^ (v.log2 - 52))
  rw [h, Nat.add_zero] at hdm
  by_cases h52 : v.log2 ≤ 52
  · rw [show v.log2 - 52 = 0 by omega] at hdm ⊢
    simp only [Nat.pow_zero, Nat.div_one, Nat.zero_mul, Nat.zero_add]
    have hv : v < 2 ^ (v.log2 + 1) := Nat.lt_log2_self
    have : 2 ^ (v.log2 + 1) ≤ 2 ^ 53 := Nat.pow_le_pow_right (by decide) (by omega)
    have e53 : (2 : Nat) ^ 53 = 9007199254740992 := by decide
    unfold val
    split
    · rfl
    · rw [show v / 4503599627370496 = 1 by omega]; simp; omega
  · have hv0 : v ≠ 0 := by intro h0; subst h0; rw [Nat.log2_zero] at h52; omega
    have hlo := Nat.log2_self_le hv0
    have hhi : v < 2 ^ (v.log2 + 1) := Nat.lt_log2_self
    have c1 : 4503599627370496 ≤ v / 2 ^ (v.log2 - 52) := by
      rw [Nat.le_div_iff_mul_le (Nat.two_pow_pos _), show (4503599627370496 : Nat) = 2 ^ 52 by decide, ← Nat.pow_add, show 52 + (v.log2 - 52) = v.log2 by omega]
      exact hlo
    have c2 : v / 2 ^ (v.log2 - 52) < 9007199254740992 := by
      rw [Nat.div_lt_iff_lt_mul (Nat.two_pow_pos _), show (9007199254740992 : Nat) = 2 ^ 53 by decide, ← Nat.pow_add, show 53 + (v.log2 - 52) = v.log2 + 1 by omega]
      exact hhi
    generalize hL : v.log2 - 52 = L at *
    generalize hc : v / 2 ^ L = c at *
    unfold val
    rw [if_neg (by have : 1 * 4503599627370496 ≤ L * 4503599627370496 := Nat.mul_le_mul_right _ (by omega); omega)]
    have e1 : (L * 4503599627370496 + c) / 4503599627370496 = L + 1 := by omega
    have e2 : (L * 4503599627370496 + c) % 4503599627370496 = c - 4503599627370496 := by omega
    rw [e1, e2, show 4503599627370496 + (c - 4503599627370496) = c by omega, show L + 1 - 1 = L by omega, Nat.mul_comm]
    exact hdm

theorem thin (c e : Nat) (h : c < 9007199254740992) : (c * 2 ^ e) % 2 ^ ((c * 2 ^ e).log2 - 52) = 0 := by
  by_cases hc : c = 0
  · subst hc; simp
  · rw [log2_mul_pow c e hc]
    have hl : c.log2 < 53 := (Nat.log2_lt hc).2 (by rw [show (2 : Nat) ^ 53 = 9007199254740992 by decide]; exact h)
    have hd : 2 ^ (c.log2 + e - 52) ∣ 2 ^ e := Nat.pow_dvd_pow 2 (by omega)
    exact Nat.mod_eq_zero_of_dvd (Nat.dvd_trans hd (Nat.dvd_mul_left _ _))

theorem rungV_val (r : Nat) : rungV 0 (val r) = r := by
  have e : ∃ c e, c < 9007199254740992 ∧ val r = c * 2 ^ e := by
    unfold val
    split
    · exact ⟨r, 0, by omega, by simp⟩
    · exact ⟨_, _, by have := Nat.mod_lt r (show 0 < 4503599627370496 by decide); omega, rfl⟩
  obtain ⟨c, e, hc, he⟩ := e
  have hv : val (rungV 0 (val r)) = val r := val_rungV _ (by rw [he]; exact thin c e hc)
  rcases Nat.lt_trichotomy (rungV 0 (val r)) r with h | h | h
  · have := val_lt h; omega
  · exact h
  · have := val_lt h; omega

/-! words -/
def rung (x : Nat) : Nat := x % 9223372036854775808
def sg (x : Nat) : Bool := x / 9223372036854775808 % 2 == 1
def isn (x : Nat) : Bool := decide (9218868437227405312 < rung x)
def key (x : Nat) : Int := if sg x then -(rung x : Int) else rung x
def sval (x : Nat) : Int := if sg x then -(val (rung x) : Int) else val (rung x)
/-- finite -/
def fin (x : Nat) : Prop := rung x < 9218868437227405312

theorem read_nan (x : Nat) (h : isn x = true) : D.read x = .nan (sg x) (rung x - 9218868437227405312) := by
  have h' : 9218868437227405312 < rung x := of_decide_eq_true h
  unfold Format.read
  dsimp only
  rw [sw_eq, binade_eq, inf_eq]
  show (if rung x < _ then _ else _) = _
  rw [if_neg (by omega)]
  show (if rung x < _ then _ else _) = _
  rw [if_neg (by omega)]
  show (if rung x = _ then _ else _) = _
  rw [if_neg (by omega)]
  rfl
theorem read_inf (x : Nat) (h : rung x = 9218868437227405312) : D.read x = .infinity (sg x) := by
  unfold Format.read
  dsimp only
  rw [sw_eq, binade_eq, inf_eq]
  show (if rung x < _ then _ else _) = _
  rw [if_neg (by omega)]
  show (if rung x < _ then _ else _) = _
  rw [if_neg (by omega)]
  show (if rung x = _ then _ else _) = _
  rw [if_pos h]
  rfl
theorem read_fin (x : Nat) (h : fin x) : ∃ (m : Nat) (i : Int) (P : Nat), D.read x = .number (sg x) m i ∧ i + 1074 = P ∧ m * 2 ^ P = val (rung x) ∧ m < 9007199254740992 := by
  unfold fin at h
  unfold Format.read
  dsimp only
  rw [sw_eq, binade_eq, inf_eq, lp_eq]
  by_cases h1 : rung x < 4503599627370496
  · refine ⟨rung x, -1074, 0, ?_, by omega, ?_, by omega⟩
    · show (if rung x < _ then _ else _) = _
      rw [if_pos h1]; rfl
    · unfold val; rw [if_pos h1]; simp
  · refine ⟨4503599627370496 + rung x % 4503599627370496, -1074 + ((rung x / 4503599627370496 - 1 : Nat) : Int), rung x / 4503599627370496 - 1, ?_, by omega, ?_, by omega⟩
    · show (if rung x < _ then _ else _) = _
      rw [if_neg h1]
      show (if rung x < _ then _ else _) = _
      rw [if_pos h]; rfl
    · unfold val; rw [if_neg h1]

theorem signed_scale (s : Bool) (m a k : Nat) : signed s m a * (2 ^ k : Nat) = signed s m (a + k) := by
  have e : ((m <<< a : Nat) : Int) * (2 ^ k : Nat) = ((m <<< (a + k) : Nat) : Int) := by
    rw [Nat.shiftLeft_eq, Nat.shiftLeft_eq, Nat.pow_add, ← Nat.mul_assoc]; simp
  unfold signed
  split
  · rw [Int.neg_mul, e]
  · exact e
theorem signed_sval (x : Nat) {m P : Nat} (h : m * 2 ^ P = val (rung x)) : signed (sg x) m P = sval x := by
  unfold signed sval
  rw [Nat.shiftLeft_eq, h]
theorem cmp_congr {a b c d : Int} (h1 : a < b ↔ c < d) (h2 : b < a ↔ d < c) : compare a b = compare c d := by
  rw [Int.compare_eq_ite_lt, Int.compare_eq_ite_lt]
  simp only [h1, h2]
theorem cmp_lt {a b : Int} (h : a < b) : compare a b = .lt := by rw [Int.compare_eq_ite_lt, if_pos h]
theorem cmp_gt {a b : Int} (h : b < a) : compare a b = .gt := by rw [Int.compare_eq_ite_lt, if_neg (by omega), if_pos h]
theorem cmp_scale (a b : Int) (k : Nat) (hk : 0 < k) : compare (a * k) (b * k) = compare a b := by
  have hk' : (0 : Int) < k := by omega
  exact cmp_congr ⟨fun h => Int.lt_of_mul_lt_mul_right h (by omega), fun h => Int.mul_lt_mul_of_pos_right h hk'⟩ ⟨fun h => Int.lt_of_mul_lt_mul_right h (by omega), fun h => Int.mul_lt_mul_of_pos_right h hk'⟩
theorem sval_cmp (x y : Nat) : compare (sval x) (sval y) = compare (key x) (key y) := by
  have h0 : val 0 = 0 := by decide
  have pos : ∀ r, 0 < r → 0 < val r := fun r h => by have := val_lt h; omega
  have lt : ∀ r r', r < r' → val r < val r' := fun r r' h => val_lt h
  have hiff : ∀ r r', val r < val r' ↔ r < r' := fun r r' => ⟨fun h => Nat.lt_of_not_le fun hh => by have := val_le hh; omega, fun h => val_lt h⟩
  have hz : ∀ r, val r = 0 ↔ r = 0 := fun r => ⟨fun h => by by_cases hr : r = 0; exact hr; have := pos r (by omega); omega, fun h => by subst h; exact h0⟩
  have a1 := hiff (rung x) (rung y)
  have a2 := hiff (rung y) (rung x)
  have a3 := hz (rung x)
  have a4 := hz (rung y)
  apply cmp_congr
  · unfold sval key; split <;> split <;> omega
  · unfold sval key; split <;> split <;> omega

theorem order_nan (x y : Nat) (h : isn x = true ∨ isn y = true) : D.order x y = none := by
  unfold Format.order
  rcases h with h | h
  · rw [read_nan x h]; rfl
  · rw [read_nan y h]
    cases D.read x <;> rfl

theorem order_key (x y : Nat) (hx : isn x = false) (hy : isn y = false) : D.order x y = some (compare (key x) (key y)) := by
  have hx' := of_decide_eq_false hx
  have hy' := of_decide_eq_false hy
  unfold Format.order
  by_cases fx : fin x
  · obtain ⟨m, i, P, rx, hP, vx, -⟩ := read_fin x fx
    by_cases fy : fin y
    · obtain ⟨n, j, Q, ry, hQ, vy, -⟩ := read_fin y fy
      rw [rx, ry]
      unfold Datum.order
      dsimp only
      congr 1
      rw [← sval_cmp, ← signed_sval x vx, ← signed_sval y vy]
      obtain ⟨B, hB⟩ : ∃ B : Nat, min i j + 1074 = B := ⟨(min i j + 1074).toNat, by omega⟩
      rw [← cmp_scale _ _ (2 ^ B) (Nat.two_pow_pos B), signed_scale, signed_scale]
      rw [show (i - min i j).toNat + B = P by omega, show (j - min i j).toNat + B = Q by omega]
    · have hy2 : rung y = 9218868437227405312 := by unfold fin at fy; omega
      rw [rx, read_inf y hy2]
      unfold fin at fx
      unfold Datum.order
      dsimp only
      congr 1
      unfold key
      rw [hy2]
      cases sg y
      · rw [cmp_lt (by cases sg x <;> simp <;> omega)]; rfl
      · rw [cmp_gt (by cases sg x <;> simp <;> omega)]; rfl
  · have hx2 : rung x = 9218868437227405312 := by unfold fin at fx; omega
    by_cases fy : fin y
    · obtain ⟨n, j, Q, ry, hQ, vy, -⟩ := read_fin y fy
      rw [ry, read_inf x hx2]
      unfold fin at fy
      unfold Datum.order
      dsimp only
      congr 1
      unfold key
      rw [hx2]
      cases sg x
      · rw [cmp_gt (by cases sg y <;> simp <;> omega)]; rfl
      · rw [cmp_lt (by cases sg y <;> simp <;> omega)]; rfl
    · have hy2 : rung y = 9218868437227405312 := by unfold fin at fy; omega
      rw [read_inf x hx2, read_inf y hy2]
      unfold Datum.order key
      dsimp only
      congr 1
      rw [hx2, hy2]
      cases sg x <;> cases sg y <;> decide

/-! the six comparisons, by the keys -/
theorem o_lt {x y : Nat} (hx : isn x = false) (hy : isn y = false) : (D.order x y == some .lt) = decide (key x < key y) := by
  rw [order_key x y hx hy, Int.compare_eq_ite_lt, Bool.eq_iff_iff]
  by_cases h : key x < key y
  · simp [h]
  · by_cases h' : key y < key x <;> simp [h, h']
theorem o_gt {x y : Nat} (hx : isn x = false) (hy : isn y = false) : (D.order x y == some .gt) = decide (key y < key x) := by
  rw [order_key x y hx hy, Int.compare_eq_ite_lt, Bool.eq_iff_iff]
  by_cases h : key x < key y
  · simp [h]; omega
  · by_cases h' : key y < key x <;> simp [h, h']
theorem o_eq {x y : Nat} (hx : isn x = false) (hy : isn y = false) : (D.order x y == some .eq) = decide (key x = key y) := by
  rw [order_key x y hx hy, Int.compare_eq_ite_lt, Bool.eq_iff_iff]
  by_cases h : key x < key y
  · simp [h]; omega
  · by_cases h' : key y < key x
    · simp [h, h']; omega
    · simp [h, h']; omega
theorem o_le {x y : Nat} (hx : isn x = false) (hy : isn y = false) : (D.order x y == some .lt || D.order x y == some .eq) = decide (key x ≤ key y) := by
  rw [o_lt hx hy, o_eq hx hy, Bool.eq_iff_iff]; simp; omega
theorem o_ge {x y : Nat} (hx : isn x = false) (hy : isn y = false) : (D.order x y == some .gt || D.order x y == some .eq) = decide (key y ≤ key x) := by
  rw [o_gt hx hy, o_eq hx hy, Bool.eq_iff_iff]; simp; omega

/-! exact sums -/
def T : Nat := 1074
theorem T_eq : T = 1074 := rfl

theorem sum_fin (x y : Nat) (neg' : Bool) {n : Nat} {j : Int} {Q : Nat} (t : Int) (hx : fin x) (hQ : j + 1074 = Q) (ht : signed neg' n Q = t) :
    ∃ s : Bool, ((D.read x).sum (.number neg' n j)).map D.write = some (D.word s (min (rungV 0 (sval x + t).natAbs) D.infRung)) ∧ (sval x + t ≠ 0 → s = decide (sval x + t < 0)) := by
  obtain ⟨m, i, P, rx, hP, vx, -⟩ := read_fin x hx
  rw [rx]
  unfold Datum.sum
  dsimp only [Option.map_some]
  obtain ⟨B, hB⟩ : ∃ B : Nat, min i j + 1074 = B := ⟨(min i j + 1074).toNat, by omega⟩
  have e : (signed (sg x) m (i - min i j).toNat + signed neg' n (j - min i j).toNat) * (2 ^ B : Nat) = sval x + t := by
    rw [Int.add_mul, signed_scale, signed_scale, show (i - min i j).toNat + B = P by omega, show (j - min i j).toNat + B = Q by omega, signed_sval x vx, ht]
  have hp : (0 : Int) < (2 ^ B : Nat) := by have := Nat.two_pow_pos B; omega
  generalize signed (sg x) m (i - min i j).toNat + signed neg' n (j - min i j).toNat = tot at *
  refine ⟨if tot = 0 then sg x && neg' else decide (tot < 0), ?_, ?_⟩
  · unfold Format.write
    dsimp only
    congr 1
    rw [nearest_eq _ _ _ B 0 (by omega)]
    have : tot.natAbs * 2 ^ B = (sval x + t).natAbs := by rw [← e, Int.natAbs_mul]; simp
    rw [this]
  · intro h0
    have h1 : tot ≠ 0 := by intro h; rw [h, Int.zero_mul] at e; exact h0 e.symm
    rw [if_neg h1, ← e]
    apply decide_eq_decide.2
    constructor
    · intro h; exact Int.mul_neg_of_neg_of_pos h hp
    · intro h
      by_cases hn : tot < 0
      · exact hn
      · have := Int.mul_nonneg (show 0 ≤ tot by omega) (show (0 : Int) ≤ (2 ^ B : Nat) by omega); omega

theorem add_fin (x y : Nat) (hx : fin x) (hy : fin y) :
    ∃ s : Bool, D.add x y = some (D.word s (min (rungV 0 (sval x + sval y).natAbs) D.infRung)) ∧ (sval x + sval y ≠ 0 → s = decide (sval x + sval y < 0)) := by
  obtain ⟨n, j, Q, ry, hQ, vy, -⟩ := read_fin y hy
  unfold Format.add
  rw [ry]
  exact sum_fin x y (sg y) (sval y) hx hQ (signed_sval y vy)
theorem sub_fin (x y : Nat) (hx : fin x) (hy : fin y) :
    ∃ s : Bool, D.sub x y = some (D.word s (min (rungV 0 (sval x - sval y).natAbs) D.infRung)) ∧ (sval x - sval y ≠ 0 → s = decide (sval x - sval y < 0)) := by
  obtain ⟨n, j, Q, ry, hQ, vy, -⟩ := read_fin y hy
  unfold Format.sub
  rw [ry]
  have hs : signed (!sg y) n Q = -sval y := by
    rw [← signed_sval y vy]
    unfold signed
    cases sg y <;> simp
  have := sum_fin x y (!sg y) (-sval y) hx hQ hs
  rw [← Int.sub_eq_add_neg] at this
  exact this

theorem word_rung (s : Bool) (r : Nat) (h : r < 9223372036854775808) : rung (D.word s r) = r := by
  unfold rung Format.word
  rw [sw_eq]
  split <;> omega
theorem word_sg (s : Bool) (r : Nat) (h : r < 9223372036854775808) : sg (D.word s r) = s := by
  unfold sg Format.word
  rw [sw_eq]
  cases s
  · simp; omega
  · simp; omega
theorem word_of (x : Nat) (h : x < 18446744073709551616) : D.word (sg x) (rung x) = x := by
  unfold Format.word sg rung
  rw [sw_eq]
  by_cases h1 : x / 9223372036854775808 % 2 = 1
  · simp [h1]; omega
  · simp [h1]; omega

/-! whole numbers -/
theorem toInt_zero (x : Nat) (hx : fin x) (hs : sg x = false) : (D.read x).toInt .zero = some ((val (rung x) / 2 ^ T : Nat) : Int) := by
  obtain ⟨m, i, P, rx, hP, vx, -⟩ := read_fin x hx
  rw [rx, hs, ← vx]
  unfold Datum.toInt Datum.integral
  dsimp only
  rw [cut_zero]
  unfold signed
  simp only [Bool.false_eq_true, if_false, Nat.shiftLeft_zero]
  congr 2
  rw [Nat.shiftLeft_eq]
  by_cases h0 : 0 ≤ i
  · rw [show (-i).toNat = 0 by omega, Nat.pow_zero, Nat.div_one, show P = i.toNat + T by rw [T_eq]; omega, Nat.pow_add, ← Nat.mul_assoc, Nat.mul_div_cancel _ (Nat.two_pow_pos T)]
  · rw [show i.toNat = 0 by omega, Nat.pow_zero, Nat.mul_one, show T = P + (-i).toNat by rw [T_eq]; omega, Nat.pow_add, Nat.mul_comm (2 ^ P), Nat.mul_div_mul_right _ _ (Nat.two_pow_pos P)]

theorem integral_even (x : Nat) (hx : fin x) : (D.read x).integral .even = .number (sg x) (rhe (val (rung x)) T) 0 := by
  obtain ⟨m, i, P, rx, hP, vx, -⟩ := read_fin x hx
  rw [rx, ← vx]
  unfold Datum.integral
  dsimp only
  rw [cut_even, Nat.shiftLeft_eq]
  refine congrArg (fun t => Datum.number (sg x) t 0) ?_
  by_cases h0 : 0 ≤ i
  · rw [show (-i).toNat = 0 by omega, rhe_zero, show P = i.toNat + T by rw [T_eq]; omega, Nat.pow_add, ← Nat.mul_assoc]
    have := rhe_scale (m * 2 ^ i.toNat) 0 T
    rw [Nat.zero_add] at this
    rw [this, rhe_zero]
  · rw [show i.toNat = 0 by omega, Nat.pow_zero, Nat.mul_one, show T = (-i).toNat + P by rw [T_eq]; omega, rhe_scale]

theorem lt_val_inf (v : Nat) (h : v < 2 ^ (53 + T)) : v < val 9218868437227405312 := by
  unfold val
  rw [if_neg (by omega)]
  generalize he : 9218868437227405312 / 4503599627370496 - 1 = e
  have h52 : (4503599627370496 + 9218868437227405312 % 4503599627370496) = 2 ^ 52 := by decide
  rw [h52, ← Nat.pow_add]
  exact Nat.lt_of_lt_of_le h (Nat.pow_le_pow_right (by decide) (by rw [T_eq]; omega))

/-- a whole number below 2^53 as a word: its rung, its value -/
def irung (n : Nat) : Nat := rungV 0 (n * 2 ^ T)
theorem val_irung (n : Nat) (h : n < 9007199254740992) : val (irung n) = n * 2 ^ T := val_rungV _ (thin n T h)
theorem irung_lt (n : Nat) (h : n < 9007199254740992) : irung n < 9218868437227405312 := by
  have hv := val_irung n h
  have : n * 2 ^ T < val 9218868437227405312 := by
    apply lt_val_inf
    rw [Nat.pow_add]
    exact (Nat.mul_lt_mul_right (Nat.two_pow_pos T)).2 (by rw [show (2 : Nat) ^ 53 = 9007199254740992 by decide]; exact h)
  rw [← hv] at this
  exact Nat.lt_of_not_le fun hh => by have := val_le hh; omega
theorem write_int (s : Bool) (n : Nat) (h : n < 9007199254740992) : D.write (.number s n 0) = D.word s (irung n) := by
  unfold Format.write
  dsimp only
  rw [nearest_eq s n 0 T 0 (by rw [T_eq]; omega), inf_eq]
  have := irung_lt n h
  rw [Nat.min_eq_left (by unfold irung at this; omega)]
  rfl
theorem irung_toInt (s : Bool) (n : Nat) (h : n < 9007199254740992) (hs : s = false) : (D.read (D.word s (irung n))).toInt .zero = some (n : Int) := by
  have h1 := irung_lt n h
  have h2 := word_rung s (irung n) (by omega)
  rw [toInt_zero _ (by unfold fin; omega) (by rw [word_sg _ _ (by omega), hs]), h2, val_irung n h, Nat.mul_div_cancel _ (Nat.two_pow_pos T)]
end Go.Proofs.Fl
