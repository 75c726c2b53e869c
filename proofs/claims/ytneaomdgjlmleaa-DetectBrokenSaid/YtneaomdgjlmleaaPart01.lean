/- 8 texts in one file, in build order. -/
import Ieee.Arith
import Derived.Laws.FloatBits
import Derived.Laws.FloatArith
import Derived.Test.YtneaomdgjlmleaaRows
import Derived.WalkKit
import Derived.WalkLawsBesides
import Derived.ProofKit
import Derived.IntWalk
import Derived.Lib.Hide
import Derived.OpenShut
import Derived.ChangeArms
import Derived.DeepKeys
import Derived.Deep.MidRow
import Derived.Below
import Derived.Deep.Slices
import Derived.ChangeSame
import Derived.Laws.Cover2
import Derived.Deep.QuietTactic
import Derived.StillTail
set_option linter.unusedVariables false
set_option linter.unusedSimpArgs false
set_option linter.unusedSectionVars false
set_option maxHeartbeats 8000000
set_option maxRecDepth 100000
namespace Go.Proofs.Ytneaomdgjlmleaa
end Go.Proofs.Ytneaomdgjlmleaa
namespace Go.Proofs.Fl
open Ieee
abbrev D : Format := Ieee.double
theorem lp_eq : D.leastPlace = -1074 := by decide
theorem binade_eq : D.binade = 4503599627370496 := by decide
theorem inf_eq : D.infRung = 9218868437227405312 := by decide
theorem sw_eq : D.signWeight = 9223372036854775808 := by decide
theorem fb_eq : D.fractionBits = 52 := rfl
/-! rounding a natural number at a binary place -/
/-- v / 2^d, rounded to the nearest, between two to the even one -/
def rhe (v d : Nat) : Nat := v / 2 ^ d + (decide (2 ^ d < 2 * (v % 2 ^ d)) || (2 ^ d == 2 * (v % 2 ^ d) && v / 2 ^ d % 2 == 1)).toNat
theorem bt_le (b : Bool) : b.toNat ≤ 1 := by cases b <;> decide
theorem rhe_lo (v d : Nat) : v / 2 ^ d ≤ rhe v d := Nat.le_add_right _ _
theorem rhe_hi (v d : Nat) : rhe v d ≤ v / 2 ^ d + 1 := Nat.add_le_add_left (bt_le _) _
theorem rhe_zero (v : Nat) : rhe v 0 = v := by
  unfold rhe; simp [Nat.mod_one]
theorem rhe_exact (v d : Nat) (h : v % 2 ^ d = 0) : rhe v d = v / 2 ^ d := by
  have hp : 0 < 2 ^ d := Nat.two_pow_pos d
  unfold rhe; rw [h]
  simp
/-- monotone at one place -/
theorem rhe_mono (v v' d : Nat) (h : v ≤ v') : rhe v d ≤ rhe v' d := by
  have hp : 0 < 2 ^ d := Nat.two_pow_pos d
  have hq : v / 2 ^ d ≤ v' / 2 ^ d := Nat.div_le_div_right h
  by_cases e : v / 2 ^ d = v' / 2 ^ d
  · have h1 := Nat.div_add_mod v (2 ^ d)
    have h2 := Nat.div_add_mod v' (2 ^ d)
    have hr : v % 2 ^ d ≤ v' % 2 ^ d := by rw [e] at h1; omega
    unfold rhe
    rw [e]
    refine Nat.add_le_add_left ?_ _
    generalize v % 2 ^ d = r at *
    generalize v' % 2 ^ d = r' at *
    generalize 2 ^ d = g at *
    by_cases c1 : g < 2 * r'
    · rw [decide_eq_true c1]; simp; exact bt_le _
    · have c2 : ¬ g < 2 * r := by omega
      rw [decide_eq_false c1, decide_eq_false c2]
      by_cases c3 : g = 2 * r
      · have c4 : g = 2 * r' := by omega
        have : r = r' := by omega
        subst this; exact Nat.le_refl _
      · have c4 : (g == 2 * r) = false := beq_eq_false_iff_ne.2 c3
        rw [c4]; simp
  · exact Nat.le_trans (rhe_hi v d) (Nat.le_trans (by omega) (rhe_lo v' d))
/-- a common power of two falls out -/
theorem rhe_scale (v d k : Nat) : rhe (v * 2 ^ k) (d + k) = rhe v d := by
  have hk : 0 < 2 ^ k := Nat.two_pow_pos k
  unfold rhe
  rw [Nat.pow_add, Nat.mul_div_mul_right _ _ hk, Nat.mul_mod_mul_right]
  have e1 : decide (2 ^ d * 2 ^ k < 2 * (v % 2 ^ d * 2 ^ k)) = decide (2 ^ d < 2 * (v % 2 ^ d)) := by
    rw [← Nat.mul_assoc]; exact decide_eq_decide.2 (Nat.mul_lt_mul_right hk)
  have e2 : (2 ^ d * 2 ^ k == 2 * (v % 2 ^ d * 2 ^ k)) = (2 ^ d == 2 * (v % 2 ^ d)) := by
    rw [← Nat.mul_assoc, Bool.eq_iff_iff, beq_iff_eq, beq_iff_eq]
    exact ⟨fun h => Nat.eq_of_mul_eq_mul_right hk h, fun h => congrArg (· * 2 ^ k) h⟩
  rw [e1, e2]
/-- what 'cut' gives, to the even one -/
theorem cut_even (neg : Bool) (n drop : Nat) : Toward.even.cut neg n drop = rhe n drop := by
  have key : ∀ g, g = drop ∨ (g ≤ drop ∧ n.log2 + 2 ≤ g) → rhe n g = rhe n drop := by
    intro g hg
    rcases hg with rfl | ⟨h1, h2⟩
    · rfl
    · have small : ∀ e, n.log2 + 2 ≤ e → rhe n e = 0 := by
        intro e he
        have hn : n < 2 ^ (n.log2 + 1) := Nat.lt_log2_self
        have hpe : 2 ^ (n.log2 + 2) ≤ 2 ^ e := Nat.pow_le_pow_right (by decide) he
        have hs : 2 ^ (n.log2 + 2) = 2 ^ (n.log2 + 1) * 2 := Nat.pow_succ ..
        unfold rhe
        rw [Nat.div_eq_of_lt (by omega), Nat.mod_eq_of_lt (by omega)]
        have c1 : ¬ 2 ^ e < 2 * n := by omega
        have c2 : ¬ 2 ^ e = 2 * n := by omega
        simp [c1]
      rw [small g h2, small drop (by omega)]
  have h := key (min drop (n.log2 + 2)) (by omega)
  rw [← h]
  unfold Toward.cut rhe
  simp only [Nat.one_shiftLeft]
theorem cut_zero (neg : Bool) (n drop : Nat) : Toward.zero.cut neg n drop = n / 2 ^ drop := by
  unfold Toward.cut
  simp only [Nat.one_shiftLeft, Bool.toNat_false, Nat.add_zero]
  by_cases h : drop ≤ n.log2 + 2
  · rw [Nat.min_eq_left h]
  · rw [Nat.min_eq_right (by omega)]
    have hn : n < 2 ^ (n.log2 + 1) := Nat.lt_log2_self
    have p1 : 2 ^ (n.log2 + 1) ≤ 2 ^ (n.log2 + 2) := Nat.pow_le_pow_right (by decide) (by omega)
    have p2 : 2 ^ (n.log2 + 2) ≤ 2 ^ drop := Nat.pow_le_pow_right (by decide) (by omega)
    rw [Nat.div_eq_of_lt (by omega), Nat.div_eq_of_lt (by omega)]
/-! the rung of a number v * 2^(-1074 - E) -/
def rungV (E v : Nat) : Nat := (max (v.log2 - 52) E - E) * 4503599627370496 + rhe v (max (v.log2 - 52) E)
theorem log2_mul_pow (m P : Nat) (h : m ≠ 0) : (m * 2 ^ P).log2 = m.log2 + P := by
  have hp : m * 2 ^ P ≠ 0 := Nat.mul_ne_zero h (by have := Nat.two_pow_pos P; omega)
  rw [Nat.log2_eq_iff hp]
  have h1 := Nat.log2_self_le h
  have h2 : m < 2 ^ (m.log2 + 1) := Nat.lt_log2_self
  have hP := Nat.two_pow_pos P
  rw [Nat.add_right_comm, Nat.pow_add, Nat.pow_add 2 (m.log2 + 1)]
  exact ⟨Nat.mul_le_mul_right _ h1, (Nat.mul_lt_mul_right hP).2 h2⟩
theorem nearest_eq (neg : Bool) (m : Nat) (p : Int) (P E : Nat) (h : p + 1074 + E = P) : D.nearest neg m p = D.word neg (min (rungV E (m * 2 ^ P)) D.infRung) := by
  unfold Format.nearest
  by_cases hm : m = 0
  · subst hm
    rw [if_pos rfl, Nat.zero_mul]
    have : rungV E 0 = 0 := by
      unfold rungV rhe
      have e : max (Nat.log2 0 - 52) E = E := by rw [Nat.log2_zero]; omega
      rw [e, Nat.zero_div, Nat.zero_mod]
      simp
    rw [this]; rfl
  rw [if_neg hm]
  dsimp only
  rw [lp_eq, binade_eq, fb_eq]
  refine congrArg (fun t => D.word neg (min t D.infRung)) ?_
  have hl : (m * 2 ^ P).log2 = m.log2 + P := log2_mul_pow m P hm
  have hlast : max (p + (m.log2 : Int) - ((52 : Nat) : Int)) (-1074) = ((max ((m * 2 ^ P).log2 - 52) E : Nat) : Int) - 1074 - E := by
    rw [hl]; omega
  rw [hlast, cut_even]
  unfold rungV
  generalize max ((m * 2 ^ P).log2 - 52) E = L at *
  have a1 : ((L : Int) - 1074 - (E : Int) - -1074).toNat = L - E := by omega
  rw [a1]
  congr 1
  rw [Nat.shiftLeft_eq]
  by_cases hPL : L ≤ P
  · have a2 : (p - ((L : Int) - 1074 - E)).toNat = P - L := by omega
    have a3 : ((L : Int) - 1074 - E - p).toNat = 0 := by omega
    rw [a2, a3, rhe_zero]
    have hx : m * 2 ^ P = m * 2 ^ (P - L) * 2 ^ L := by rw [Nat.mul_assoc, ← Nat.pow_add]; congr 2; omega
    rw [hx]
    have := rhe_scale (m * 2 ^ (P - L)) 0 L
    rw [Nat.zero_add] at this
    rw [this, rhe_zero]
  · have a2 : (p - ((L : Int) - 1074 - E)).toNat = 0 := by omega
    have a3 : ((L : Int) - 1074 - E - p).toNat = L - P := by omega
    rw [a2, a3, Nat.pow_zero, Nat.mul_one]
    have := rhe_scale m (L - P) P
    rw [show L - P + P = L by omega] at this
    exact this.symm
theorem log2_mono {a b : Nat} (h : a ≤ b) : a.log2 ≤ b.log2 := by
  by_cases ha : a = 0
  · subst ha; rw [Nat.log2_zero]; exact Nat.zero_le _
  · exact (Nat.le_log2 (by omega)).2 (Nat.le_trans (Nat.log2_self_le ha) h)
theorem rungV_mono (E : Nat) {v v' : Nat} (h : v ≤ v') : rungV E v ≤ rungV E v' := by
  have hl := log2_mono h
  unfold rungV
  by_cases e : max (v.log2 - 52) E = max (v'.log2 - 52) E
  · rw [e]; exact Nat.add_le_add_left (rhe_mono _ _ _ h) _
  · -- the place is higher: v' is normal there
    have hlt : max (v.log2 - 52) E < max (v'.log2 - 52) E := by omega
    have e' : max (v'.log2 - 52) E = v'.log2 - 52 := by omega
    have h52 : 52 < v'.log2 := by omega
    rw [e']
    have hv0 : v' ≠ 0 := by intro h0; subst h0; rw [Nat.log2_zero] at h52; omega
    -- kept' is at least 2^52
    have k' : 4503599627370496 ≤ rhe v' (v'.log2 - 52) := by
      refine Nat.le_trans ?_ (rhe_lo _ _)
      rw [Nat.le_div_iff_mul_le (Nat.two_pow_pos _)]
      have := Nat.log2_self_le hv0
      rw [show (4503599627370496 : Nat) = 2 ^ 52 by decide, ← Nat.pow_add, show 52 + (v'.log2 - 52) = v'.log2 by omega]
      exact this
    -- kept is at most 2^53
    have k : rhe v (max (v.log2 - 52) E) ≤ 9007199254740992 := by
      have hv : v < 2 ^ (v.log2 + 1) := Nat.lt_log2_self
      have : v / 2 ^ max (v.log2 - 52) E < 9007199254740992 := by
        rw [Nat.div_lt_iff_lt_mul (Nat.two_pow_pos _)]
        refine Nat.lt_of_lt_of_le hv ?_
        rw [show (9007199254740992 : Nat) = 2 ^ 53 by decide, ← Nat.pow_add]
        exact Nat.pow_le_pow_right (by decide) (by omega)
      have := rhe_hi v (max (v.log2 - 52) E)
      omega
    have g1 : E ≤ max (v.log2 - 52) E := by omega
    have g2 : max (v.log2 - 52) E < v'.log2 - 52 := by omega
    clear hlt e' e
    generalize max (v.log2 - 52) E = L at *
    generalize v'.log2 - 52 = L' at *
    have hm : (L - E + 1) * 4503599627370496 ≤ (L' - E) * 4503599627370496 := Nat.mul_le_mul_right _ (by omega)
    rw [Nat.add_mul] at hm
    omega
/-! the value of a rung, times 2^1074 -/
def val (r : Nat) : Nat := if r < 4503599627370496 then r else (4503599627370496 + r % 4503599627370496) * 2 ^ (r / 4503599627370496 - 1)
theorem val_lt {r r' : Nat} (h : r < r') : val r < val r' := by
  unfold val
  by_cases h1 : r < 4503599627370496
  · rw [if_pos h1]
    by_cases h2 : r' < 4503599627370496
    · rw [if_pos h2]; exact h
    · rw [if_neg h2]
      have := Nat.two_pow_pos (r' / 4503599627370496 - 1)
      have : (4503599627370496 + r' % 4503599627370496) * 1 ≤ (4503599627370496 + r' % 4503599627370496) * 2 ^ (r' / 4503599627370496 - 1) := Nat.mul_le_mul_left _ this
      omega
  · have h2 : ¬ r' < 4503599627370496 := by omega
    rw [if_neg h1, if_neg h2]
    have hq : r / 4503599627370496 ≤ r' / 4503599627370496 := Nat.div_le_div_right (by omega)
    by_cases e : r / 4503599627370496 = r' / 4503599627370496
    · rw [e]; exact (Nat.mul_lt_mul_right (Nat.two_pow_pos _)).2 (by omega)
    · have hm : r % 4503599627370496 < 4503599627370496 := Nat.mod_lt _ (by decide)
      have hm' : r' % 4503599627370496 < 4503599627370496 := Nat.mod_lt _ (by decide)
      have p1 : 2 ^ (r / 4503599627370496) ≤ 2 ^ (r' / 4503599627370496 - 1) := Nat.pow_le_pow_right (by decide) (by omega)
      have p0 : 2 ^ (r / 4503599627370496) = 2 ^ (r / 4503599627370496 - 1) * 2 := by
        rw [← Nat.pow_succ]; congr 1; omega
      have hpos := Nat.two_pow_pos (r / 4503599627370496 - 1)
      have s1 : (4503599627370496 + r % 4503599627370496) * 2 ^ (r / 4503599627370496 - 1) < 9007199254740992 * 2 ^ (r / 4503599627370496 - 1) := (Nat.mul_lt_mul_right hpos).2 (by omega)
      have s2 : 4503599627370496 * 2 ^ (r' / 4503599627370496 - 1) ≤ (4503599627370496 + r' % 4503599627370496) * 2 ^ (r' / 4503599627370496 - 1) := Nat.mul_le_mul_right _ (by omega)
      omega
theorem val_le {r r' : Nat} (h : r ≤ r') : val r ≤ val r' := by
  rcases Nat.eq_or_lt_of_le h with rfl | h
  · exact Nat.le_refl _
  · exact Nat.le_of_lt (val_lt h)
/-- a number of at most 53 binary digits is what its rung stands for -/
theorem val_rungV (v : Nat) (h : v % 2 ^ (v.log2 - 52) = 0) : val (rungV 0 v) = v := by
  unfold rungV
  rw [show max (v.log2 - 52) 0 = v.log2 - 52 by omega, Nat.sub_zero, rhe_exact _ _ h]
  have hdm := Nat.div_add_mod v (2 ^ (v.log2 - 52))
  rw [h, Nat.add_zero] at hdm
  by_cases h52 : v.log2 ≤ 52
  · rw [show v.log2 - 52 = 0 by omega] at hdm ⊢
    simp only [Nat.pow_zero, Nat.div_one, Nat.zero_mul, Nat.zero_add]
    have hv : v < 2 ^ (v.log2 + 1) := Nat.lt_log2_self
    have : 2 ^ (v.log2 + 1) ≤ 2 ^ 53 := Nat.pow_le_pow_right (by decide) (by omega)
    have e53 : (2 : Nat) ^ 53 = 9007199254740992 := by decide
    unfold val
    split
    · rfl
    · rw [show v / 4503599627370496 = 1 by omega]; simp; omega
  · have hv0 : v ≠ 0 := by intro h0; subst h0; rw [Nat.log2_zero] at h52; omega
    have hlo := Nat.log2_self_le hv0
    have hhi : v < 2 ^ (v.log2 + 1) := Nat.lt_log2_self
    have c1 : 4503599627370496 ≤ v / 2 ^ (v.log2 - 52) := by
      rw [Nat.le_div_iff_mul_le (Nat.two_pow_pos _), show (4503599627370496 : Nat) = 2 ^ 52 by decide, ← Nat.pow_add, show 52 + (v.log2 - 52) = v.log2 by omega]
      exact hlo
    have c2 : v / 2 ^ (v.log2 - 52) < 9007199254740992 := by
      rw [Nat.div_lt_iff_lt_mul (Nat.two_pow_pos _), show (9007199254740992 : Nat) = 2 ^ 53 by decide, ← Nat.pow_add, show 53 + (v.log2 - 52) = v.log2 + 1 by omega]
      exact hhi
    generalize hL : v.log2 - 52 = L at *
    generalize hc : v / 2 ^ L = c at *
    unfold val
    rw [if_neg (by have : 1 * 4503599627370496 ≤ L * 4503599627370496 := Nat.mul_le_mul_right _ (by omega); omega)]
    have e1 : (L * 4503599627370496 + c) / 4503599627370496 = L + 1 := by omega
    have e2 : (L * 4503599627370496 + c) % 4503599627370496 = c - 4503599627370496 := by omega
    rw [e1, e2, show 4503599627370496 + (c - 4503599627370496) = c by omega, show L + 1 - 1 = L by omega, Nat.mul_comm]
    exact hdm
theorem thin (c e : Nat) (h : c < 9007199254740992) : (c * 2 ^ e) % 2 ^ ((c * 2 ^ e).log2 - 52) = 0 := by
  by_cases hc : c = 0
  · subst hc; simp
  · rw [log2_mul_pow c e hc]
    have hl : c.log2 < 53 := (Nat.log2_lt hc).2 (by rw [show (2 : Nat) ^ 53 = 9007199254740992 by decide]; exact h)
    have hd : 2 ^ (c.log2 + e - 52) ∣ 2 ^ e := Nat.pow_dvd_pow 2 (by omega)
    exact Nat.mod_eq_zero_of_dvd (Nat.dvd_trans hd (Nat.dvd_mul_left _ _))
/-! words -/
def rung (x : Nat) : Nat := x % 9223372036854775808
def sg (x : Nat) : Bool := x / 9223372036854775808 % 2 == 1
def isn (x : Nat) : Bool := decide (9218868437227405312 < rung x)
def key (x : Nat) : Int := if sg x then -(rung x : Int) else rung x
def sval (x : Nat) : Int := if sg x then -(val (rung x) : Int) else val (rung x)
/-- finite -/
def fin (x : Nat) : Prop := rung x < 9218868437227405312
theorem read_nan (x : Nat) (h : isn x = true) : D.read x = .nan (sg x) (rung x - 9218868437227405312) := by
  have h' : 9218868437227405312 < rung x := of_decide_eq_true h
  unfold Format.read
  dsimp only
  rw [sw_eq, binade_eq, inf_eq]
  show (if rung x < _ then _ else _) = _
  rw [if_neg (by omega)]
  show (if rung x < _ then _ else _) = _
  rw [if_neg (by omega)]
  show (if rung x = _ then _ else _) = _
  rw [if_neg (by omega)]
  rfl
theorem read_inf (x : Nat) (h : rung x = 9218868437227405312) : D.read x = .infinity (sg x) := by
  unfold Format.read
  dsimp only
  rw [sw_eq, binade_eq, inf_eq]
  show (if rung x < _ then _ else _) = _
  rw [if_neg (by omega)]
  show (if rung x < _ then _ else _) = _
  rw [if_neg (by omega)]
  show (if rung x = _ then _ else _) = _
  rw [if_pos h]
  rfl
theorem read_fin (x : Nat) (h : fin x) : ∃ (m : Nat) (i : Int) (P : Nat), D.read x = .number (sg x) m i ∧ i + 1074 = P ∧ m * 2 ^ P = val (rung x) ∧ m < 9007199254740992 := by
  unfold fin at h
  unfold Format.read
  dsimp only
  rw [sw_eq, binade_eq, inf_eq, lp_eq]
  by_cases h1 : rung x < 4503599627370496
  · refine ⟨rung x, -1074, 0, ?_, by omega, ?_, by omega⟩
    · show (if rung x < _ then _ else _) = _
      rw [if_pos h1]; rfl
    · unfold val; rw [if_pos h1]; simp
  · refine ⟨4503599627370496 + rung x % 4503599627370496, -1074 + ((rung x / 4503599627370496 - 1 : Nat) : Int), rung x / 4503599627370496 - 1, ?_, by omega, ?_, by omega⟩
    · show (if rung x < _ then _ else _) = _
      rw [if_neg h1]
      show (if rung x < _ then _ else _) = _
      rw [if_pos h]; rfl
    · unfold val; rw [if_neg h1]
theorem signed_scale (s : Bool) (m a k : Nat) : signed s m a * (2 ^ k : Nat) = signed s m (a + k) := by
  have e : ((m <<< a : Nat) : Int) * (2 ^ k : Nat) = ((m <<< (a + k) : Nat) : Int) := by
    rw [Nat.shiftLeft_eq, Nat.shiftLeft_eq, Nat.pow_add, ← Nat.mul_assoc]; simp
  unfold signed
  split
  · rw [Int.neg_mul, e]
  · exact e
theorem signed_sval (x : Nat) {m P : Nat} (h : m * 2 ^ P = val (rung x)) : signed (sg x) m P = sval x := by
  unfold signed sval
  rw [Nat.shiftLeft_eq, h]
theorem cmp_congr {a b c d : Int} (h1 : a < b ↔ c < d) (h2 : b < a ↔ d < c) : compare a b = compare c d := by
  rw [Int.compare_eq_ite_lt, Int.compare_eq_ite_lt]
  simp only [h1, h2]
theorem cmp_lt {a b : Int} (h : a < b) : compare a b = .lt := by rw [Int.compare_eq_ite_lt, if_pos h]
theorem cmp_gt {a b : Int} (h : b < a) : compare a b = .gt := by rw [Int.compare_eq_ite_lt, if_neg (by omega), if_pos h]
theorem cmp_scale (a b : Int) (k : Nat) (hk : 0 < k) : compare (a * k) (b * k) = compare a b := by
  have hk' : (0 : Int) < k := by omega
  exact cmp_congr ⟨fun h => Int.lt_of_mul_lt_mul_right h (by omega), fun h => Int.mul_lt_mul_of_pos_right h hk'⟩ ⟨fun h => Int.lt_of_mul_lt_mul_right h (by omega), fun h => Int.mul_lt_mul_of_pos_right h hk'⟩
theorem sval_cmp (x y : Nat) : compare (sval x) (sval y) = compare (key x) (key y) := by
  have h0 : val 0 = 0 := by decide
  have pos : ∀ r, 0 < r → 0 < val r := fun r h => by have := val_lt h; omega
  have lt : ∀ r r', r < r' → val r < val r' := fun r r' h => val_lt h
  have hiff : ∀ r r', val r < val r' ↔ r < r' := fun r r' => ⟨fun h => Nat.lt_of_not_le fun hh => by have := val_le hh; omega, fun h => val_lt h⟩
  have hz : ∀ r, val r = 0 ↔ r = 0 := fun r => ⟨fun h => by by_cases hr : r = 0; exact hr; have := pos r (by omega); omega, fun h => by subst h; exact h0⟩
  have a1 := hiff (rung x) (rung y)
  have a2 := hiff (rung y) (rung x)
  have a3 := hz (rung x)
  have a4 := hz (rung y)
  apply cmp_congr
  · unfold sval key; split <;> split <;> omega
  · unfold sval key; split <;> split <;> omega
theorem order_nan (x y : Nat) (h : isn x = true ∨ isn y = true) : D.order x y = none := by
  unfold Format.order
  rcases h with h | h
  · rw [read_nan x h]; rfl
  · rw [read_nan y h]
    cases D.read x <;> rfl
theorem order_key (x y : Nat) (hx : isn x = false) (hy : isn y = false) : D.order x y = some (compare (key x) (key y)) := by
  have hx' := of_decide_eq_false hx
  have hy' := of_decide_eq_false hy
  unfold Format.order
  by_cases fx : fin x
  · obtain ⟨m, i, P, rx, hP, vx, -⟩ := read_fin x fx
    by_cases fy : fin y
    · obtain ⟨n, j, Q, ry, hQ, vy, -⟩ := read_fin y fy
      rw [rx, ry]
      unfold Datum.order
      dsimp only
      congr 1
      rw [← sval_cmp, ← signed_sval x vx, ← signed_sval y vy]
      obtain ⟨B, hB⟩ : ∃ B : Nat, min i j + 1074 = B := ⟨(min i j + 1074).toNat, by omega⟩
      rw [← cmp_scale _ _ (2 ^ B) (Nat.two_pow_pos B), signed_scale, signed_scale]
      rw [show (i - min i j).toNat + B = P by omega, show (j - min i j).toNat + B = Q by omega]
    · have hy2 : rung y = 9218868437227405312 := by unfold fin at fy; omega
      rw [rx, read_inf y hy2]
      unfold fin at fx
      unfold Datum.order
      dsimp only
      congr 1
      unfold key
      rw [hy2]
      cases sg y
      · rw [cmp_lt (by cases sg x <;> simp <;> omega)]; rfl
      · rw [cmp_gt (by cases sg x <;> simp <;> omega)]; rfl
  · have hx2 : rung x = 9218868437227405312 := by unfold fin at fx; omega
    by_cases fy : fin y
    · obtain ⟨n, j, Q, ry, hQ, vy, -⟩ := read_fin y fy
      rw [ry, read_inf x hx2]
      unfold fin at fy
      unfold Datum.order
      dsimp only
      congr 1
      unfold key
      rw [hx2]
      cases sg x
      · rw [cmp_gt (by cases sg y <;> simp <;> omega)]; rfl
      · rw [cmp_lt (by cases sg y <;> simp <;> omega)]; rfl
    · have hy2 : rung y = 9218868437227405312 := by unfold fin at fy; omega
      rw [read_inf x hx2, read_inf y hy2]
      unfold Datum.order key
      dsimp only
      congr 1
      rw [hx2, hy2]
      cases sg x <;> cases sg y <;> decide
/-! the six comparisons, by the keys -/
theorem o_eq {x y : Nat} (hx : isn x = false) (hy : isn y = false) : (D.order x y == some .eq) = decide (key x = key y) := by
  rw [order_key x y hx hy, Int.compare_eq_ite_lt, Bool.eq_iff_iff]
  by_cases h : key x < key y
  · simp [h]; omega
  · by_cases h' : key y < key x
    · simp [h, h']; omega
    · simp [h, h']; omega
/-! exact sums -/
def T : Nat := 1074
theorem T_eq : T = 1074 := rfl
theorem sum_fin (x y : Nat) (neg' : Bool) {n : Nat} {j : Int} {Q : Nat} (t : Int) (hx : fin x) (hQ : j + 1074 = Q) (ht : signed neg' n Q = t) :
    ∃ s : Bool, ((D.read x).sum (.number neg' n j)).map D.write = some (D.word s (min (rungV 0 (sval x + t).natAbs) D.infRung)) ∧ (sval x + t ≠ 0 → s = decide (sval x + t < 0)) := by
  obtain ⟨m, i, P, rx, hP, vx, -⟩ := read_fin x hx
  rw [rx]
  unfold Datum.sum
  dsimp only [Option.map_some]
  obtain ⟨B, hB⟩ : ∃ B : Nat, min i j + 1074 = B := ⟨(min i j + 1074).toNat, by omega⟩
  have e : (signed (sg x) m (i - min i j).toNat + signed neg' n (j - min i j).toNat) * (2 ^ B : Nat) = sval x + t := by
    rw [Int.add_mul, signed_scale, signed_scale, show (i - min i j).toNat + B = P by omega, show (j - min i j).toNat + B = Q by omega, signed_sval x vx, ht]
  have hp : (0 : Int) < (2 ^ B : Nat) := by have := Nat.two_pow_pos B; omega
  generalize signed (sg x) m (i - min i j).toNat + signed neg' n (j - min i j).toNat = tot at *
  refine ⟨if tot = 0 then sg x && neg' else decide (tot < 0), ?_, ?_⟩
  · unfold Format.write
    dsimp only
    congr 1
    rw [nearest_eq _ _ _ B 0 (by omega)]
    have : tot.natAbs * 2 ^ B = (sval x + t).natAbs := by rw [← e, Int.natAbs_mul]; simp
    rw [this]
  · intro h0
    have h1 : tot ≠ 0 := by intro h; rw [h, Int.zero_mul] at e; exact h0 e.symm
    rw [if_neg h1, ← e]
    apply decide_eq_decide.2
    constructor
    · intro h; exact Int.mul_neg_of_neg_of_pos h hp
    · intro h
      by_cases hn : tot < 0
      · exact hn
      · have := Int.mul_nonneg (show 0 ≤ tot by omega) (show (0 : Int) ≤ (2 ^ B : Nat) by omega); omega
theorem sub_fin (x y : Nat) (hx : fin x) (hy : fin y) :
    ∃ s : Bool, D.sub x y = some (D.word s (min (rungV 0 (sval x - sval y).natAbs) D.infRung)) ∧ (sval x - sval y ≠ 0 → s = decide (sval x - sval y < 0)) := by
  obtain ⟨n, j, Q, ry, hQ, vy, -⟩ := read_fin y hy
  unfold Format.sub
  rw [ry]
  have hs : signed (!sg y) n Q = -sval y := by
    rw [← signed_sval y vy]
    unfold signed
    cases sg y <;> simp
  have := sum_fin x y (!sg y) (-sval y) hx hQ hs
  rw [← Int.sub_eq_add_neg] at this
  exact this
theorem word_rung (s : Bool) (r : Nat) (h : r < 9223372036854775808) : rung (D.word s r) = r := by
  unfold rung Format.word
  rw [sw_eq]
  split <;> omega
theorem word_sg (s : Bool) (r : Nat) (h : r < 9223372036854775808) : sg (D.word s r) = s := by
  unfold sg Format.word
  rw [sw_eq]
  cases s
  · simp; omega
  · simp; omega
/-! whole numbers -/
theorem toInt_zero (x : Nat) (hx : fin x) (hs : sg x = false) : (D.read x).toInt .zero = some ((val (rung x) / 2 ^ T : Nat) : Int) := by
  obtain ⟨m, i, P, rx, hP, vx, -⟩ := read_fin x hx
  rw [rx, hs, ← vx]
  unfold Datum.toInt Datum.integral
  dsimp only
  rw [cut_zero]
  unfold signed
  simp only [Bool.false_eq_true, if_false, Nat.shiftLeft_zero]
  congr 2
  rw [Nat.shiftLeft_eq]
  by_cases h0 : 0 ≤ i
  · rw [show (-i).toNat = 0 by omega, Nat.pow_zero, Nat.div_one, show P = i.toNat + T by rw [T_eq]; omega, Nat.pow_add, ← Nat.mul_assoc, Nat.mul_div_cancel _ (Nat.two_pow_pos T)]
  · rw [show i.toNat = 0 by omega, Nat.pow_zero, Nat.mul_one, show T = P + (-i).toNat by rw [T_eq]; omega, Nat.pow_add, Nat.mul_comm (2 ^ P), Nat.mul_div_mul_right _ _ (Nat.two_pow_pos P)]
theorem integral_even (x : Nat) (hx : fin x) : (D.read x).integral .even = .number (sg x) (rhe (val (rung x)) T) 0 := by
  obtain ⟨m, i, P, rx, hP, vx, -⟩ := read_fin x hx
  rw [rx, ← vx]
  unfold Datum.integral
  dsimp only
  rw [cut_even, Nat.shiftLeft_eq]
  refine congrArg (fun t => Datum.number (sg x) t 0) ?_
  by_cases h0 : 0 ≤ i
  · rw [show (-i).toNat = 0 by omega, rhe_zero, show P = i.toNat + T by rw [T_eq]; omega, Nat.pow_add, ← Nat.mul_assoc]
    have := rhe_scale (m * 2 ^ i.toNat) 0 T
    rw [Nat.zero_add] at this
    rw [this, rhe_zero]
  · rw [show i.toNat = 0 by omega, Nat.pow_zero, Nat.mul_one, show T = (-i).toNat + P by rw [T_eq]; omega, rhe_scale]
theorem lt_val_inf (v : Nat) (h : v < 2 ^ (53 + T)) : v < val 9218868437227405312 := by
  unfold val
  rw [if_neg (by omega)]
  generalize he : 9218868437227405312 / 4503599627370496 - 1 = e
  have h52 : (4503599627370496 + 9218868437227405312 % 4503599627370496) = 2 ^ 52 := by decide
  rw [h52, ← Nat.pow_add]
  exact Nat.lt_of_lt_of_le h (Nat.pow_le_pow_right (by decide) (by rw [T_eq]; omega))
/-- a whole number below 2^53 as a word: its rung, its value -/
def irung (n : Nat) : Nat := rungV 0 (n * 2 ^ T)
theorem val_irung (n : Nat) (h : n < 9007199254740992) : val (irung n) = n * 2 ^ T := val_rungV _ (thin n T h)
theorem irung_lt (n : Nat) (h : n < 9007199254740992) : irung n < 9218868437227405312 := by
  have hv := val_irung n h
  have : n * 2 ^ T < val 9218868437227405312 := by
    apply lt_val_inf
    rw [Nat.pow_add]
    exact (Nat.mul_lt_mul_right (Nat.two_pow_pos T)).2 (by rw [show (2 : Nat) ^ 53 = 9007199254740992 by decide]; exact h)
  rw [← hv] at this
  exact Nat.lt_of_not_le fun hh => by have := val_le hh; omega
theorem write_int (s : Bool) (n : Nat) (h : n < 9007199254740992) : D.write (.number s n 0) = D.word s (irung n) := by
  unfold Format.write
  dsimp only
  rw [nearest_eq s n 0 T 0 (by rw [T_eq]; omega), inf_eq]
  have := irung_lt n h
  rw [Nat.min_eq_left (by unfold irung at this; omega)]
  rfl
theorem irung_toInt (s : Bool) (n : Nat) (h : n < 9007199254740992) (hs : s = false) : (D.read (D.word s (irung n))).toInt .zero = some (n : Int) := by
  have h1 := irung_lt n h
  have h2 := word_rung s (irung n) (by omega)
  rw [toInt_zero _ (by unfold fin; omega) (by rw [word_sg _ _ (by omega), hs]), h2, val_irung n h, Nat.mul_div_cancel _ (Nat.two_pow_pos T)]
end Go.Proofs.Fl
namespace Go.Proofs.Ytneaomdgjlmleaa
end Go.Proofs.Ytneaomdgjlmleaa
namespace Go.Proofs.Fl
open Ieee
/-- ten, 999.9, a half -/
abbrev ten : Nat := 4621819117588971520
abbrev half : Nat := 4602678819172646912
/-- the seconds that have ticks -/
def ok (s : Nat) : Bool := !isn s && decide (0 ≤ key s) && decide (key s ≤ 4652006429231887155)
theorem ok_iff (s : Nat) : ok s = true ↔ isn s = false ∧ 0 ≤ key s ∧ key s ≤ 4652006429231887155 := by
  unfold ok; simp [and_assoc]
theorem ok_fin {s : Nat} (h : ok s = true) : fin s := by
  obtain ⟨h1, h2, h3⟩ := (ok_iff s).1 h
  have := of_decide_eq_false h1
  unfold fin; unfold key at h2 h3
  split at h2 <;> simp_all <;> omega
theorem ok_rung {s : Nat} (h : ok s = true) : rung s ≤ 4652006429231887155 ∧ (sg s = true → rung s = 0) := by
  obtain ⟨h1, h2, h3⟩ := (ok_iff s).1 h
  unfold key at h2 h3
  cases hs : sg s <;> simp [hs] at h2 h3 ⊢ <;> omega
/-- the rung of ten times a number of seconds -/
def tr (s : Nat) : Nat := rungV 49 (5629499534213120 * val (rung s))
theorem mul_ten (s : Nat) (h : fin s) : D.mul ten s = some (D.word (sg s) (min (tr s) D.infRung)) := by
  obtain ⟨m, i, P, rx, hP, vx, -⟩ := read_fin s h
  unfold Format.mul
  rw [show D.read ten = .number false 5629499534213120 (-49) by decide, rx]
  unfold Datum.product
  dsimp only [Option.map_some]
  unfold Format.write
  dsimp only
  rw [nearest_eq _ _ _ P 49 (by omega), Nat.mul_assoc, vx, Bool.false_xor]
  rfl
theorem ten_mul (s : Nat) (h : fin s) : D.mul s ten = some (D.word (sg s) (min (tr s) D.infRung)) := by
  rw [← mul_ten s h]
  obtain ⟨m, i, P, rx, hP, vx, -⟩ := read_fin s h
  unfold Format.mul
  rw [show D.read ten = .number false 5629499534213120 (-49) by decide, rx]
  unfold Datum.product
  dsimp only
  rw [Nat.mul_comm, Int.add_comm, Bool.xor_comm]
theorem tr_top : tr 4652006429231887155 = 4666722622711529472 := by decide +kernel
theorem tr_mono {s t : Nat} (h : rung s ≤ rung t) : tr s ≤ tr t := rungV_mono 49 (Nat.mul_le_mul_left _ (val_le h))
theorem tr_hi {s : Nat} (h : ok s = true) : tr s ≤ 4666722622711529472 := by
  rw [← tr_top]
  exact tr_mono (ok_rung h).1
/-- ten times s, as a word -/
def xw (s : Nat) : Nat := D.word (sg s) (tr s)
theorem mul_ok {s : Nat} (h : ok s = true) : D.mul ten s = some (xw s) ∧ D.mul s ten = some (xw s) := by
  have e : min (tr s) D.infRung = tr s := Nat.min_eq_left (by have := tr_hi h; rw [inf_eq]; omega)
  rw [mul_ten s (ok_fin h), ten_mul s (ok_fin h), e]
  exact ⟨rfl, rfl⟩
theorem xw_rung {s : Nat} (h : ok s = true) : rung (xw s) = tr s := word_rung _ _ (by have := tr_hi h; omega)
theorem xw_sg {s : Nat} (h : ok s = true) : sg (xw s) = sg s := word_sg _ _ (by have := tr_hi h; omega)
theorem xw_fin {s : Nat} (h : ok s = true) : fin (xw s) := by unfold fin; rw [xw_rung h]; have := tr_hi h; omega
/-- the ticks of seconds -/
def tk (s : Nat) : Nat := rhe (val (tr s)) T
theorem val_9999 : val 4666722622711529472 = 9999 * 2 ^ T := by
  have : irung 9999 = 4666722622711529472 := by
    unfold irung; rw [T_eq]; decide +kernel
  rw [← this, val_irung 9999 (by omega)]
theorem tk_hi {s : Nat} (h : ok s = true) : tk s ≤ 9999 := by
  have h1 : tk s ≤ rhe (9999 * 2 ^ T) T := rhe_mono _ _ _ (by rw [← val_9999]; exact val_le (tr_hi h))
  have h2 : rhe (9999 * 2 ^ T) T = 9999 := by
    have := rhe_scale 9999 0 T
    rw [Nat.zero_add, rhe_zero] at this
    exact this
  omega
/-- the word that RoundToEven gives of ten times s -/
def rw' (s : Nat) : Nat := D.word (sg s) (irung (tk s))
theorem round_ok {s : Nat} (h : ok s = true) : D.write ((D.read (xw s)).integral .even) = rw' s := by
  have hh := tk_hi h
  rw [integral_even _ (xw_fin h), xw_rung h, xw_sg h]
  rw [write_int _ _ (by unfold tk at hh; omega)]
  rfl
theorem tr_zero {s : Nat} (h : rung s = 0) : tr s = 0 := by unfold tr; rw [h]; decide
theorem tk_zero {s : Nat} (h : rung s = 0) : tk s = 0 := by
  unfold tk; rw [tr_zero h]
  have := rhe_scale 0 0 T
  rw [Nat.zero_add, rhe_zero, Nat.zero_mul] at this
  exact this
theorem int_ok {s : Nat} (h : ok s = true) : floatToIntVal .f64 (rw' s) .i64 = some (tk s : Int) := by
  have hh := tk_hi h
  have e : (D.read (rw' s)).toInt .zero = some (tk s : Int) := by
    by_cases hs : sg s = true
    · have h0 := tk_zero ((ok_rung h).2 hs)
      unfold rw'; rw [hs, h0]
      have : irung 0 = 0 := by unfold irung; rw [Nat.zero_mul]; decide
      rw [this]; decide
    · exact irung_toInt _ _ (by omega) (by simpa using hs)
  unfold floatToIntVal
  have e' : (FloatKind.decode .f64 (rw' s)).toInt .zero = some (tk s : Int) := e
  rw [e']
  simp only
  rw [if_pos]
  rw [show IntKind.min .i64 = -9223372036854775808 by decide, show IntKind.max .i64 = 9223372036854775807 by decide]
  omega
/-! the same by the other way: cut, and one more where the rest is more than a half -/
/-- cut -/
def qk (s : Nat) : Nat := val (tr s) / 2 ^ T
theorem cut_ok {s : Nat} (h : ok s = true) : floatToIntVal .f64 (xw s) .i64 = some (qk s : Int) := by
  have hh : qk s ≤ tk s := rhe_lo _ _
  have hh' := tk_hi h
  have e : (D.read (xw s)).toInt .zero = some (qk s : Int) := by
    by_cases hs : sg s = true
    · have h0 := tr_zero ((ok_rung h).2 hs)
      unfold xw qk; rw [hs, h0]
      rw [show val 0 = 0 by decide, Nat.zero_div]
      decide
    · rw [toInt_zero _ (xw_fin h) (by rw [xw_sg h]; simpa using hs), xw_rung h]; rfl
  unfold floatToIntVal
  have e' : (FloatKind.decode .f64 (xw s)).toInt .zero = some (qk s : Int) := e
  rw [e']
  simp only
  rw [if_pos]
  rw [show IntKind.min .i64 = -9223372036854775808 by decide, show IntKind.max .i64 = 9223372036854775807 by decide]
  omega
theorem float_of (n : Nat) (h : n < 9007199254740992) : floatOfInt .f64 (n : Int) = irung n := by
  show D.write (.number (decide ((n : Int) < 0)) (n : Int).natAbs 0) = _
  rw [show (n : Int).natAbs = n by omega, write_int _ n h, decide_eq_false (by omega)]
  rfl
/-- what is left, as a word -/
def lw (s : Nat) : Nat := (D.sub (xw s) (irung (qk s))).getD 0
theorem val_half : val half * 2 = 2 ^ T := by
  have h1 : val 4607182418800017408 = 1 * 2 ^ T := by
    have : irung 1 = 4607182418800017408 := by unfold irung; rw [T_eq]; decide +kernel
    rw [← this, val_irung 1 (by omega)]
  rw [Nat.one_mul] at h1
  rw [← h1]
  unfold val
  rw [if_neg (by decide), if_neg (by decide), show (half % 4503599627370496) = 0 by decide, show (4607182418800017408 % 4503599627370496) = 0 by decide,
    show 4607182418800017408 / 4503599627370496 - 1 = (half / 4503599627370496 - 1) + 1 by decide, Nat.pow_succ, Nat.mul_assoc]
theorem rest_ok {s : Nat} (h : ok s = true) : D.sub (xw s) (irung (qk s)) = some (lw s) ∧ isn (lw s) = false
    ∧ (decide (key half < key (lw s)) = decide (2 ^ T < 2 * (val (tr s) % 2 ^ T))) ∧ (decide (key (lw s) = key half) = (2 ^ T == 2 * (val (tr s) % 2 ^ T))) := by
  have hq : qk s ≤ 9999 := Nat.le_trans (rhe_lo _ _) (tk_hi h)
  have hi := irung_lt (qk s) (by omega)
  have ri : rung (irung (qk s)) = irung (qk s) := by unfold rung; omega
  have si : sg (irung (qk s)) = false := by unfold sg; simp; omega
  obtain ⟨sn, he, hneg⟩ := sub_fin (xw s) (irung (qk s)) (xw_fin h) (by unfold fin; rw [ri]; exact hi)
  have hv2 : sval (irung (qk s)) = ((qk s * 2 ^ T : Nat) : Int) := by
    unfold sval; rw [si, ri, val_irung _ (by omega)]; rfl
  have hv1 : sval (xw s) = (val (tr s) : Int) := by
    unfold sval; rw [xw_sg h, xw_rung h]
    by_cases hs : sg s = true
    · rw [tr_zero ((ok_rung h).2 hs), hs]; decide
    · simp [hs]
  have hdm := Nat.div_add_mod (val (tr s)) (2 ^ T)
  have hd : sval (xw s) - sval (irung (qk s)) = ((val (tr s) % 2 ^ T : Nat) : Int) := by
    rw [hv1, hv2]; unfold qk; rw [Nat.mul_comm (val (tr s) / 2 ^ T)]; omega
  rw [hd] at he hneg
  rw [show ((val (tr s) % 2 ^ T : Nat) : Int).natAbs = val (tr s) % 2 ^ T by omega] at he
  -- what is left has at most 53 binary digits
  have thinF : (val (tr s) % 2 ^ T) % 2 ^ ((val (tr s) % 2 ^ T).log2 - 52) = 0 := by
    have e : ∃ c e, c < 9007199254740992 ∧ val (tr s) = c * 2 ^ e := by
      unfold val
      split
      · exact ⟨tr s, 0, by omega, by simp⟩
      · exact ⟨_, _, by have := Nat.mod_lt (tr s) (show 0 < 4503599627370496 by decide); omega, rfl⟩
    obtain ⟨c, e, hc, he⟩ := e
    rw [he]
    by_cases hT : T ≤ e
    · have : c * 2 ^ e % 2 ^ T = 0 := Nat.mod_eq_zero_of_dvd (Nat.dvd_trans (Nat.pow_dvd_pow 2 hT) (Nat.dvd_mul_left _ _))
      rw [this]; rfl
    · rw [show T = (T - e) + e by omega, Nat.pow_add, Nat.mul_mod_mul_right]
      exact thin _ e (Nat.lt_of_le_of_lt (Nat.mod_le _ _) hc)
  have hval := val_rungV _ thinF
  have hmod : val (tr s) % 2 ^ T < 2 ^ T := Nat.mod_lt _ (Nat.two_pow_pos T)
  have hlt : rungV 0 (val (tr s) % 2 ^ T) < 9218868437227405312 := by
    refine Nat.lt_of_not_le fun hh => ?_
    have h1 := val_le hh
    rw [hval] at h1
    have h2 := lt_val_inf (val (tr s) % 2 ^ T) (Nat.lt_of_lt_of_le hmod (Nat.pow_le_pow_right (by decide) (by omega)))
    omega
  rw [Nat.min_eq_left (by rw [inf_eq]; omega)] at he
  have hlw : lw s = D.word sn (rungV 0 (val (tr s) % 2 ^ T)) := by unfold lw; rw [he]; rfl
  have hr : rung (lw s) = rungV 0 (val (tr s) % 2 ^ T) := by rw [hlw]; exact word_rung _ _ (by omega)
  have hs2 : sg (lw s) = sn := by rw [hlw]; exact word_sg _ _ (by omega)
  have hkey : key (lw s) = (rungV 0 (val (tr s) % 2 ^ T) : Int) := by
    unfold key; rw [hr, hs2]
    by_cases h0 : val (tr s) % 2 ^ T = 0
    · rw [h0, show rungV 0 0 = 0 by decide]; simp
    · have := hneg (by omega)
      rw [decide_eq_false (by omega)] at this
      rw [this]; rfl
  have hkh : key half = 4602678819172646912 := by decide
  have hvh := val_half
  refine ⟨by rw [he, hlw], ?_, ?_, ?_⟩
  · unfold isn; rw [hr]; exact decide_eq_false (by omega)
  · rw [hkey, hkh]
    apply decide_eq_decide.2
    constructor
    · intro hh
      have : val half < val (rungV 0 (val (tr s) % 2 ^ T)) := val_lt (by unfold half; omega)
      rw [hval] at this; omega
    · intro hh
      have : ¬ rungV 0 (val (tr s) % 2 ^ T) ≤ half := fun hle => by
        have := val_le hle; rw [hval] at this; omega
      unfold half at this; omega
  · rw [hkey, hkh, Bool.eq_iff_iff, decide_eq_true_iff, beq_iff_eq]
    constructor
    · intro hh
      have : rungV 0 (val (tr s) % 2 ^ T) = half := by unfold half; omega
      rw [this] at hval; omega
    · intro hh
      have h1 : val (rungV 0 (val (tr s) % 2 ^ T)) = val half := by rw [hval]; omega
      rcases Nat.lt_trichotomy (rungV 0 (val (tr s) % 2 ^ T)) half with hl | hl | hl
      · have := val_lt hl; omega
      · unfold half at hl; omega
      · have := val_lt hl; omega
/-- both ways give the same -/
theorem tk_qk (s : Nat) : tk s = qk s + (decide (2 ^ T < 2 * (val (tr s) % 2 ^ T)) || (2 ^ T == 2 * (val (tr s) % 2 ^ T) && qk s % 2 == 1)).toNat := rfl
/-! all seconds of whole ticks, by calculation -/
/-- n / 10 -/
def ofB (n : Nat) : Nat := (D.div (floatOfInt .f64 (n : Int)) ten).getD 0
end Go.Proofs.Fl
namespace Go.Proofs.Ytneaomdgjlmleaa
namespace Secs
open Go.ChangeShapes Go.WideShapes Go.ChangeAt Go.RowKit Go.Proofs.Fl
def cap (n : Int) : Int := if n < 0 then 0 else if 2147483647 < n then 2147483647 else n
theorem cap_neg {n : Int} (h : n < 0) : cap n = 0 := by unfold cap; rw [if_pos h]
theorem cap_big {n : Int} (h : 2147483647 < n) : cap n = 2147483647 := by unfold cap; rw [if_neg (by omega), if_pos h]
theorem cap_in {n : Int} (h : 0 ≤ n) (h' : n ≤ 2147483647) : cap n = n := by unfold cap; rw [if_neg (by omega), if_neg (by omega)]
theorem ret_int {k : IntKind} {a b : Int} (h : a = b) : Ending.returned (.int k a) = .returned (.int k b) := by rw [h]
theorem ret_tick {a b : Int} (h : a = b) : Ending.returned (.tuple #[.int .i64 a, .bool true]) = .returned (.tuple #[.int .i64 b, .bool true]) := by rw [h]
theorem ret_bool {a b : Bool} (h : a = b) : Ending.returned (.bool a) = .returned (.bool b) := by rw [h]
theorem ret_float {k : FloatKind} {a b : Nat} (h : a = b) : Ending.returned (.float k a) = .returned (.float k b) := by rw [h]
theorem limit_any (n : Int) (w : World) : Calls Try.prog 107 #[.int .i64 n] w fun e w' => e = .returned (.int .i64 (cap n)) ∧ w = w' := by
  by_cases h1 : n < 0
  · go_enter Try.func107, Try.ntmps107
    go_wp2
    go_ret
    exact ⟨ret_int (cap_neg h1).symm, rfl⟩
  by_cases h2 : 2147483647 < n
  · go_enter Try.func107, Try.ntmps107
    go_wp2
    go_ret
    exact ⟨ret_int (cap_big h2).symm, rfl⟩
  · go_enter Try.func107, Try.ntmps107
    go_wp2
    go_ret
    exact ⟨ret_int (cap_in (by omega) (by omega)).symm, rfl⟩
theorem cap_any (n : Int) (w : World) : Calls Try.prog 106 #[.int .i64 n] w fun e w' => e = .returned (.int .i64 (cap n)) ∧ w = w' := by
  go_enter Try.func106, Try.ntmps106
  go_wp2_with (go_at_call 107; refine (limit_any _ _).mono ?_; rintro e w' ⟨rfl, rfl⟩)
  go_ret
  exact ⟨rfl, rfl⟩
/-! is it a number? -/
theorem o_ne_self (x : Nat) : (FloatKind.f64.format.order x x != some .eq) = isn x := by
  show (D.order x x != some .eq) = isn x
  cases h : isn x
  · have := o_eq h h
    rw [bne, this]; simp
  · rw [order_nan x x (.inl h)]; rfl
theorem isnan_any (x : Nat) (w : World) : Calls Try.prog 101 #[.float .f64 x] w fun e w' => e = .returned (.bool (isn x)) ∧ w = w' := by
  go_enter Try.func101, Try.ntmps101
  go_wp2
  go_ret
  exact ⟨ret_bool (o_ne_self x), rfl⟩
/-! seconds of ticks -/
/-- n, cut to 0 to 9999 -/
def cut (n : Int) : Nat := (if n < 0 then 0 else if 9999 < n then 9999 else n).toNat
/-- that the quotients are what they are: proved by calculation elsewhere -/
def Quo : Prop := ∀ k : Nat, k ≤ 9999 → D.div (floatOfInt .f64 (k : Int)) ten = some (ofB k)
theorem quo_holds : Quo := by
  intro k hk
  have hf := float_of k (by omega)
  have hi := irung_lt k (by omega)
  obtain ⟨m, i, P, rx, -, -, -⟩ := read_fin (irung k) (by unfold fin rung; omega)
  have : ∃ s, D.div (floatOfInt .f64 (k : Int)) ten = some s := by
    rw [hf]
    unfold Ieee.Format.div
    rw [rx, show D.read ten = .number false 5629499534213120 (-49) by decide]
    unfold Ieee.Datum.quotient
    dsimp only
    rw [if_neg (by decide)]
    exact ⟨_, rfl⟩
  obtain ⟨s, hs⟩ := this
  unfold ofB
  rw [hs]
  rfl
theorem quo_at (hQ : Quo) (k : Int) (hk0 : 0 ≤ k) (hk : k ≤ 9999) : ∀ t w, (binOp .quo t (.float .f64 (floatOfInt .f64 k)) (.float .f64 4621819117588971520)).run Try.prog w = .ok (.float .f64 (ofB k.toNat)) w := by
  intro t w
  obtain ⟨n, rfl⟩ := Int.eq_ofNat_of_zero_le hk0
  exact run_float_arith w .quo t .f64 _ _ _ (hQ n (by omega))
theorem of_any (hQ : Quo) (n : Int) (w : World) : Calls Try.prog 105 #[.int .i64 n] w fun e w' => e = .returned (.float .f64 (ofB (cut n))) ∧ w = w' := by
  have hop := quo_at hQ
  clear hQ
  by_cases h1 : n < 0
  · have HC := Lib.hid (show cut n = 0 by unfold cut; rw [if_pos h1]; rfl)
    have hq := hop 0 (by omega) (by omega)
    have hcap := cap_neg h1
    clear hop
    go_enter Try.func105, Try.ntmps105
    go_wp2_with (first | (go_at_call 106; refine (cap_any _ _).mono ?_; rintro e w' ⟨rfl, rfl⟩) | simp only [hq])
    go_ret
    exact ⟨ret_float (by rw [HC.out]), rfl⟩
  by_cases h2 : 9999 < n
  · have HC := Lib.hid (show cut n = 9999 by unfold cut; rw [if_neg h1, if_pos h2]; rfl)
    have hq := hop 9999 (by omega) (by omega)
    have hcap : 9999 < cap n := by unfold cap; rw [if_neg h1]; split <;> omega
    clear hop
    go_enter Try.func105, Try.ntmps105
    go_wp2_with (first | (go_at_call 106; refine (cap_any _ _).mono ?_; rintro e w' ⟨rfl, rfl⟩) | simp only [hq])
    go_ret
    exact ⟨ret_float (by rw [HC.out]), rfl⟩
  · have HC := Lib.hid (show cut n = n.toNat by unfold cut; rw [if_neg h1, if_neg h2])
    have hq := hop n (by omega) (by omega)
    have hcap := cap_in (n := n) (by omega) (by omega)
    clear hop
    go_enter Try.func105, Try.ntmps105
    go_wp2_with (first | (go_at_call 106; refine (cap_any _ _).mono ?_; rintro e w' ⟨rfl, rfl⟩) | simp only [hq])
    go_ret
    exact ⟨ret_float (by rw [HC.out]), rfl⟩
theorem of_top : ofB (cut 9999) = 4652006429231887155 := by decide +kernel
theorem longest_any (hQ : Quo) (w : World) : Calls Try.prog 103 #[] w fun e w' => e = .returned (.float .f64 4652006429231887155) ∧ w = w' := by
  have HQ := Lib.hid hQ
  clear hQ
  go_enter Try.func103, Try.ntmps103
  go_wp2_with (go_at_call 105; refine (of_any HQ.out _ _).mono ?_; rintro e w' ⟨rfl, rfl⟩)
  go_ret
  exact ⟨ret_float of_top, rfl⟩
theorem even_call {s : Nat} (h : ok s = true) (w : World) : (callFunc 104 #[.float .f64 (xw s)]).run Try.prog w = .ok (.value (.float .f64 (rw' s))) w := by
  rw [run_callFunc_extern (e := Extern.MathFloor.toIntegral "math.RoundToEven" .even) Try.func104 (by kernel_rfl) (by kernel_rfl) (by kernel_rfl) (by kernel_rfl)]
  have hr := round_ok h
  obtain ⟨m, i, P, rx, -, -, -⟩ := read_fin (xw s) (xw_fin h)
  have e : FloatKind.decode .f64 (xw s) = .number (sg (xw s)) m i := rx
  have e2 : FloatKind.encode .f64 (Ieee.Datum.integral .even (.number (sg (xw s)) m i)) = rw' s := by rw [← hr, ← rx]; rfl
  have key : Extern.MathFloor.toIntegral "math.RoundToEven" .even #[.float .f64 (xw s)] = pure (.float .f64 (rw' s)) := by
    show Extern.MathFloor.toIntegral.match_1 (fun _ => Sem Value) (FloatKind.decode .f64 (xw s)) _ _ = _
    rw [e]
    show pure (Value.float .f64 (FloatKind.encode .f64 (Ieee.Datum.integral .even (.number (sg (xw s)) m i)))) = _
    rw [e2]
  rw [key]
  rfl
theorem bits_call (x : Nat) (w : World) : (callFunc 83 #[.float .f64 x]).run Try.prog w = .ok (.value (.int .u64 x)) w := by
  rw [run_callFunc_extern (e := Extern.MathFloatBits.float64bits) Try.func83 (by kernel_rfl) (by kernel_rfl) (by kernel_rfl) (by kernel_rfl)]
  rfl
/-! how two stand to each other, named -/
theorem ord_cases (x y : Nat) (hx : isn x = false) (hy : isn y = false) :
    (key x < key y ∧ FloatKind.f64.format.order x y = some .lt) ∨ (key x = key y ∧ FloatKind.f64.format.order x y = some .eq) ∨ (key y < key x ∧ FloatKind.f64.format.order x y = some .gt) := by
  have h : FloatKind.f64.format.order x y = some (compare (key x) (key y)) := order_key x y hx hy
  rw [h, Int.compare_eq_ite_lt]
  rcases Int.lt_trichotomy (key x) (key y) with hl | hl | hl
  · exact .inl ⟨hl, by rw [if_pos hl]⟩
  · exact .inr (.inl ⟨hl, by rw [if_neg (by omega), if_neg (by omega)]⟩)
  · exact .inr (.inr ⟨hl, by rw [if_neg (by omega), if_pos hl]⟩)
theorem ord_nan (x y : Nat) (h : isn x = true ∨ isn y = true) : FloatKind.f64.format.order x y = none := order_nan x y h
theorem key0 : key 0 = 0 := by decide
theorem keyT : key 4652006429231887155 = 4652006429231887155 := by decide
theorem isn0 : isn 0 = false := by decide
theorem isnT : isn 4652006429231887155 = false := by decide
theorem isnan_t {x : Nat} (h : isn x = true) (w : World) : Calls Try.prog 101 #[.float .f64 x] w fun e w' => e = .returned (.bool true) ∧ w = w' :=
  (isnan_any x w).mono fun _ _ ⟨a, b⟩ => ⟨by rw [a, h], b⟩
theorem isnan_f {x : Nat} (h : isn x = false) (w : World) : Calls Try.prog 101 #[.float .f64 x] w fun e w' => e = .returned (.bool false) ∧ w = w' :=
  (isnan_any x w).mono fun _ _ ⟨a, b⟩ => ⟨by rw [a, h], b⟩
/-! Ticks -/
theorem ticks_no (hQ : Quo) {s : Nat} (h : ok s = false) (w : World) : Calls Try.prog 97 #[.float .f64 s] w fun e w' => e = .returned (.tuple #[.int .i64 0, .bool false]) ∧ w = w' := by
  have HQ := Lib.hid hQ
  clear hQ
  cases hn : isn s
  · have h0 := ord_cases s 0 hn isn0
    have hT := ord_cases s 4652006429231887155 hn isnT
    rw [key0] at h0
    rw [keyT] at hT
    have hk : key s < 0 ∨ 0 ≤ key s ∧ 4652006429231887155 < key s := by
      have : ¬ ok s = true := by rw [h]; simp
      rw [ok_iff] at this
      by_cases a : key s < 0
      · exact .inl a
      · by_cases b : 4652006429231887155 < key s
        · exact .inr ⟨by omega, b⟩
        · exact absurd ⟨hn, by omega, by omega⟩ this
    have HN := Lib.hid hn
    clear hn h
    rcases hk with hk | ⟨hk0, hk⟩
    · have ho : FloatKind.f64.format.order s 0 = some .lt := by rcases h0 with ⟨a, b⟩ | ⟨a, b⟩ | ⟨a, b⟩ <;> first | exact b | omega
      clear h0 hT
      go_enter Try.func97, Try.ntmps97
      go_wp2_with (go_at_call 101; refine (isnan_f HN.out _).mono ?_; rintro e w' ⟨rfl, rfl⟩)
      go_ret2
      exact ⟨rfl, rfl⟩
    · have ho2 : FloatKind.f64.format.order s 4652006429231887155 = some .gt := by rcases hT with ⟨a, b⟩ | ⟨a, b⟩ | ⟨a, b⟩ <;> first | exact b | omega
      clear hT
      rcases h0 with ⟨a, ho⟩ | ⟨a, ho⟩ | ⟨a, ho⟩
      · omega
      all_goals
        clear a
        go_enter Try.func97, Try.ntmps97
        go_wp2_with (first | (go_at_call 101; refine (isnan_f HN.out _).mono ?_; rintro e w' ⟨rfl, rfl⟩) | (go_at_call 103; refine (longest_any HQ.out _).mono ?_; rintro e w' ⟨rfl, rfl⟩))
        go_ret2
        exact ⟨rfl, rfl⟩
  · have HN := Lib.hid hn
    clear hn h
    go_enter Try.func97, Try.ntmps97
    go_wp2_with (go_at_call 101; refine (isnan_t HN.out _).mono ?_; rintro e w' ⟨rfl, rfl⟩)
    go_ret2
    exact ⟨rfl, rfl⟩
theorem ticks_yes (hQ : Quo) {s : Nat} (h : ok s = true) (w : World) : Calls Try.prog 97 #[.float .f64 s] w fun e w' => e = .returned (.tuple #[.int .i64 (tk s), .bool true]) ∧ w = w' := by
  have HQ := Lib.hid hQ
  clear hQ
  obtain ⟨hn, hlo, hhi⟩ := (ok_iff s).1 h
  have h0 := ord_cases s 0 hn isn0
  have hT := ord_cases s 4652006429231887155 hn isnT
  rw [key0] at h0
  rw [keyT] at hT
  have HN := Lib.hid hn
  have hm : ∀ t w, (binOp .mul t (.float .f64 4621819117588971520) (.float .f64 s)).run Try.prog w = .ok (.float .f64 (xw s)) w := fun t w => run_float_arith w .mul t .f64 _ _ _ (mul_ok h).1
  have he := even_call h
  have hc : ∀ w, (convert 60 3 (.float .f64 (rw' s))).run Try.prog w = .ok (.int .i64 (tk s)) w := fun w => run_convert_float_int w 60 3 .f64 .i64 _ _ (by rw [Try.underlying60]; rfl) Try.underlying3 (int_ok h)
  clear hn h
  rcases h0 with ⟨a, ho⟩ | ⟨a, ho⟩ | ⟨a, ho⟩
  · omega
  all_goals
    rcases hT with ⟨b, ho2⟩ | ⟨b, ho2⟩ | ⟨b, ho2⟩
    rotate_right
    · omega
    all_goals
      clear a b hlo hhi
      go_enter Try.func97, Try.ntmps97
      go_wp2_with (first | (go_at_call 101; refine (isnan_f HN.out _).mono ?_; rintro e w' ⟨rfl, rfl⟩) | (go_at_call 103; refine (longest_any HQ.out _).mono ?_; rintro e w' ⟨rfl, rfl⟩) | simp only [hm, he, hc])
      go_ret2
      exact ⟨rfl, rfl⟩
theorem rticks_no {s : Nat} (h : ok s = false) (w : World) : Calls Try.prog 53 #[.float .f64 s] w fun e w' => e = .returned (.tuple #[.int .i64 0, .bool false]) ∧ w = w' := by
  cases hn : isn s
  · have h0 := ord_cases s 0 hn isn0
    have hT := ord_cases s 4652006429231887155 hn isnT
    rw [key0] at h0
    rw [keyT] at hT
    have hk : key s < 0 ∨ 0 ≤ key s ∧ 4652006429231887155 < key s := by
      have : ¬ ok s = true := by rw [h]; simp
      rw [ok_iff] at this
      by_cases a : key s < 0
      · exact .inl a
      · by_cases b : 4652006429231887155 < key s
        · exact .inr ⟨by omega, b⟩
        · exact absurd ⟨hn, by omega, by omega⟩ this
    clear hn h
    rcases hk with hk | ⟨hk0, hk⟩
    · have ho : FloatKind.f64.format.order s 0 = some .lt := by rcases h0 with ⟨a, b⟩ | ⟨a, b⟩ | ⟨a, b⟩ <;> first | exact b | omega
      clear h0 hT
      go_enter Try.func53, Try.ntmps53
      go_wp2
      go_ret2
      exact ⟨rfl, rfl⟩
    · have ho2 : FloatKind.f64.format.order s 4652006429231887155 = some .gt := by rcases hT with ⟨a, b⟩ | ⟨a, b⟩ | ⟨a, b⟩ <;> first | exact b | omega
      clear hT
      rcases h0 with ⟨a, ho⟩ | ⟨a, ho⟩ | ⟨a, ho⟩
      · omega
      all_goals
        clear a
        go_enter Try.func53, Try.ntmps53
        go_wp2
        go_ret2
        exact ⟨rfl, rfl⟩
  · have ho := ord_nan s 0 (.inl hn)
    have ho2 := ord_nan s 4652006429231887155 (.inl hn)
    clear hn h
    go_enter Try.func53, Try.ntmps53
    go_wp2
    go_ret2
    exact ⟨rfl, rfl⟩
theorem b00 (q : Nat) : q + (false || (false && q % 2 == 1)).toNat = q := rfl
theorem b01 (q : Nat) (h : q % 2 = 1) : q + (false || (true && q % 2 == 1)).toNat = q + 1 := by rw [h]; rfl
theorem b02 (q : Nat) (h : q % 2 = 0) : q + (false || (true && q % 2 == 1)).toNat = q := by rw [h]; rfl
theorem b1 (q : Nat) (b : Bool) : q + (true || b).toNat = q + 1 := rfl
theorem cast1 (q : Nat) : (q : Int) + 1 = ((q + 1 : Nat) : Int) := rfl
theorem isnH : isn half = false := by decide
theorem rticks_yes {s : Nat} (h : ok s = true) (w : World) : Calls Try.prog 53 #[.float .f64 s] w fun e w' => e = .returned (.tuple #[.int .i64 (tk s), .bool true]) ∧ w = w' := by
  obtain ⟨hn, hlo, hhi⟩ := (ok_iff s).1 h
  have h0 := ord_cases s 0 hn isn0
  have hT := ord_cases s 4652006429231887155 hn isnT
  rw [key0] at h0
  rw [keyT] at hT
  obtain ⟨hsub, hln, hgt, heq⟩ := rest_ok h
  have hH := ord_cases (lw s) half hln isnH
  have hq : qk s ≤ 9999 := Nat.le_trans (rhe_lo _ _) (tk_hi h)
  have htk := tk_qk s
  rw [← hgt, ← heq] at htk
  have hm : ∀ t w, (binOp .mul t (.float .f64 s) (.float .f64 4621819117588971520)).run Try.prog w = .ok (.float .f64 (xw s)) w := fun t w => run_float_arith w .mul t .f64 _ _ _ (mul_ok h).2
  have hc : ∀ w, (convert 60 3 (.float .f64 (xw s))).run Try.prog w = .ok (.int .i64 (qk s)) w := fun w => run_convert_float_int w 60 3 .f64 .i64 _ _ (by rw [Try.underlying60]; rfl) Try.underlying3 (cut_ok h)
  have hs : ∀ t w, (binOp .sub t (.float .f64 (xw s)) (.float .f64 (irung (qk s)))).run Try.prog w = .ok (.float .f64 (lw s)) w := fun t w => run_float_arith w .sub t .f64 _ _ _ hsub
  have hf := float_of (qk s) (by omega)
  have hq0 : (0 : Int) ≤ (qk s : Int) := by omega
  have hq1 : (qk s : Int) ≤ 9999 := by omega
  have HT := Lib.hid (show tk s = qk s + (decide (key half < key (lw s)) || (decide (key (lw s) = key half) && qk s % 2 == 1)).toNat from htk)
  clear htk hgt heq hsub hln hn h hq
  have par : qk s % 2 = 1 ∨ qk s % 2 = 0 := by omega
  rcases h0 with ⟨a, ho⟩ | ⟨a, ho⟩ | ⟨a, ho⟩
  · omega
  all_goals
    rcases hT with ⟨b, ho2⟩ | ⟨b, ho2⟩ | ⟨b, ho2⟩
    rotate_right
    · omega
    all_goals
      clear a b hlo hhi
      rcases hH with ⟨c, ho3⟩ | ⟨c, ho3⟩ | ⟨c, ho3⟩
      · have HE := Lib.hid (show tk s = qk s from by rw [HT.out, decide_eq_false (by omega), decide_eq_false (by omega)]; exact b00 _)
        clear HT par c
        go_enter Try.func53, Try.ntmps53
        go_wp2_with (simp only [hm, hc, hs, hf])
        go_ret2
        exact ⟨ret_tick (by rw [HE.out]), rfl⟩
      · rcases par with p | p
        · have HE := Lib.hid (show tk s = qk s + 1 from by rw [HT.out, decide_eq_false (by omega), decide_eq_true c]; exact b01 _ p)
          have p' : (qk s : Int) % 2 = 1 := by omega
          clear HT p c
          go_enter Try.func53, Try.ntmps53
          go_wp2_with (simp only [hm, hc, hs, hf])
          go_ret2
          exact ⟨ret_tick (by rw [HE.out]; exact cast1 _), rfl⟩
        · have HE := Lib.hid (show tk s = qk s from by rw [HT.out, decide_eq_false (by omega), decide_eq_true c]; exact b02 _ p)
          have p' : (qk s : Int) % 2 = 0 := by omega
          clear HT p c
          go_enter Try.func53, Try.ntmps53
          go_wp2_with (simp only [hm, hc, hs, hf])
          go_ret2
          exact ⟨ret_tick (by rw [HE.out]), rfl⟩
      · have HE := Lib.hid (show tk s = qk s + 1 from by rw [HT.out, decide_eq_true c]; exact b1 _ _)
        clear HT par c
        go_enter Try.func53, Try.ntmps53
        go_wp2_with (simp only [hm, hc, hs, hf])
        go_ret2
        exact ⟨ret_tick (by rw [HE.out]; exact cast1 _), rfl⟩
end Secs
namespace Flat
open Go Go.ChangeShapes Go.WideShapes
section
variable {α β : Type}
def All2 (R : α → β → Prop) : List α → List β → Prop
  | [], [] => True
  | a :: l, b :: m => R a b ∧ All2 R l m
  | _, _ => False
variable {R : α → β → Prop}
theorem All2.length : ∀ {a : List α} {b : List β}, All2 R a b → a.length = b.length
  | [], [], _ => rfl
  | _ :: _, _ :: _, ⟨_, h⟩ => by simp [All2.length h]
  | [], _ :: _, h => h.elim
  | _ :: _, [], h => h.elim
theorem All2.at : ∀ {a : List α} {b : List β}, All2 R a b → ∀ {i : Nat} {x : α} {y : β}, a[i]? = some x → b[i]? = some y → R x y
  | _ :: _, _ :: _, ⟨h, _⟩, 0, _, _, h1, h2 => by simp at h1 h2; subst h1 h2; exact h
  | _ :: _, _ :: _, ⟨_, k⟩, i + 1, _, _, h1, h2 => All2.at k (i := i) (by simpa using h1) (by simpa using h2)
  | [], _, _, _, _, _, h1, _ => by simp at h1
  | _ :: _, [], h, _, _, _, _, _ => h.elim
theorem All2.mono {S : α → β → Prop} (hm : ∀ x y, R x y → S x y) : ∀ {a : List α} {b : List β}, All2 R a b → All2 S a b
  | [], [], _ => trivial
  | _ :: _, _ :: _, ⟨h, k⟩ => ⟨hm _ _ h, All2.mono hm k⟩
  | [], _ :: _, h => h.elim
  | _ :: _, [], h => h.elim
end
section
variable {P : Program} {R : TypeId → Value → Prop} {G : TypeId → List Value → Prop} {g : TypeId → Option (List TypeId)}
end
section
variable {H : Type} {enc : TypeId × Value → H} {P : Program} {w : World} {base : Nat} {spare : Nat → Bool} {held : Bool}
end
/-! ### comparing -/
section
variable {P : Program}
end
end Flat
namespace Tab
open Go Go.RowKit
abbrev I (n : Int) : Value := .int .i64 n
abbrev F (n : Nat) : Value := .float .f64 n
structure Ph where
  on : Bool
  min : Int
  gap : Int
  max : Int
  top : Int
  step : Int
  yellow : Int
  red : Int
  walk : Int
  blinks : Int
  recall : Int
  lock : Bool
  rest : Bool
  deriving DecidableEq, Inhabited
structure Det where
  phase : Int
  on : Nat
  off : Nat
  delay : Nat
  extend : Nat
  maxOn : Int
  maxOff : Int
  deriving DecidableEq, Inhabited
structure Rl where
  bars : Int
  clear : Int
  dwell : Int
  exit : Int
  delay : Int
  green : Int
  foot : Int
  hold : Int
  stay : Int
  most : Int
  limit : Int
  deriving DecidableEq, Inhabited
structure Bs where
  set : Int
  lock : Int
  deriving DecidableEq, Inhabited
structure Tab where
  phases : List Ph
  groups : List (List Int × List Int)
  conflict : List Int
  dets : List Det
  rails : List Rl
  buses : List Bs
  extend : Int
  budget : Int
  start : Int
  revert : Int
  least : Int
  flash : List Int
  window : Int
  share : Int
  deriving DecidableEq, Inhabited
def Ph.cells (p : Ph) : List Value := [.bool p.on, I p.min, I p.gap, I p.max, I p.top, I p.step, I p.yellow, I p.red, I p.walk, I p.blinks, I p.recall, .bool p.lock, .bool p.rest]
def Det.cells (d : Det) : List Value := [I d.phase, F d.on, F d.off, F d.delay, F d.extend, I d.maxOn, I d.maxOff]
def Rl.cells (r : Rl) : List Value := [I r.bars, I r.clear, I r.dwell, I r.exit, I r.delay, I r.green, I r.foot, I r.hold, I r.stay, I r.most, I r.limit]
def Bs.cells (b : Bs) : List Value := [I b.set, I b.lock]
/-- Where a slice lies, and its capacity. -/
structure Sl where
  a : Option Addr
  cap : Nat
abbrev Sl.val (s : Sl) (n : Nat) : Value := .slice s.a n s.cap
def Lies (w : World) (x : Addr) (cs : List Value) : Prop := ∀ j v, cs[j]? = some v → w.cell? (x.add j) = some v
/-- Under a slice lie the elements l, each of n cells. -/
def RowOf {α : Type} (n : Nat) (enc : α → List Value) (w : World) (s : Sl) (l : List α) : Prop :=
  (s.a = none ∧ s.cap = 0 ∧ l = []) ∨ ∃ x, s.a = some x ∧ l.length ≤ s.cap ∧ s.cap ≤ maxLen ∧ ∀ i v, l[i]? = some v → Lies w (x.add (i * n)) (enc v)
abbrev IntRow (w : World) (s : Sl) (l : List Int) : Prop := RowOf 1 (fun n => [I n]) w s l
theorem add_zero (x : Addr) : x.add 0 = x := by cases x; simp [Addr.add]
theorem add_one (y : Addr) : y.add 1 = ⟨y.block, y.off + 1, none⟩ := by simp [Addr.add]
theorem add_two (x : Addr) (p i : Nat) : (x.add p).add i = x.add (p + i) := by
  unfold Addr.add
  by_cases hp : p = 0
  · subst hp; simp
  · by_cases hi : i = 0
    · subst hi; simp
    · simp [hp, hi, show ¬ (p + i = 0) by omega, Nat.add_assoc]
theorem Lies.below {w w' : World} {x : Addr} {cs : List Value} (h : Lies w x cs) (hb : Below w.heap.size w w') : Lies w' x cs := fun j v hv =>
  (hb.cell (World.block_lt_of_cell? w _ (h j v hv))).trans (h j v hv)
section
variable {α : Type} {n : Nat} {enc : α → List Value} {w w' : World} {s : Sl} {l : List α}
theorem RowOf.below (h : RowOf n enc w s l) (hb : Below w.heap.size w w') : RowOf n enc w' s l := by
  rcases h with h | ⟨x, h1, h2, h3, h4⟩
  · exact .inl h
  · exact .inr ⟨x, h1, h2, h3, fun i v hv => (h4 i v hv).below hb⟩
theorem RowOf.len (h : RowOf n enc w s l) : l.length ≤ s.cap ∧ s.cap ≤ maxLen := by
  rcases h with ⟨_, h1, rfl⟩ | ⟨x, h1, h2, h3, h4⟩
  · rw [h1]; exact ⟨Nat.le_refl _, Nat.zero_le _⟩
  · exact ⟨h2, h3⟩
theorem RowOf.at (h : RowOf n enc w s l) {i : Nat} {v : α} (hv : l[i]? = some v) : ∃ x, s.a = some x ∧ Lies w (x.add (i * n)) (enc v) := by
  rcases h with ⟨_, _, rfl⟩ | ⟨x, h1, h2, h3, h4⟩
  · simp at hv
  · exact ⟨x, h1, h4 i v hv⟩
theorem RowOf.nil (w : World) : RowOf n enc w ⟨none, 0⟩ [] := .inl ⟨rfl, rfl, rfl⟩
theorem IntRow.at {s : Sl} {l : List Int} (h : IntRow w s l) {i : Nat} {v : Int} (hv : l[i]? = some v) : ∃ x, s.a = some x ∧ w.cell? (x.add i) = some (I v) := by
  obtain ⟨x, hx, hl⟩ := RowOf.at h hv
  have := hl 0 _ rfl
  rw [Nat.mul_one, add_two, Nat.add_zero] at this
  exact ⟨x, hx, this⟩
end
/-- A group's rows, and where they lie. -/
structure Gr where
  r0 : List Int
  r1 : List Int
  s0 : Sl
  s1 : Sl
def Gr.cells (g : Gr) : List Value := [g.s0.val g.r0.length, g.s1.val g.r1.length]
def Gr.ok (w : World) (g : Gr) : Prop := IntRow w g.s0 g.r0 ∧ IntRow w g.s1 g.r1
def Gr.data (g : Gr) : List Int × List Int := (g.r0, g.r1)
def GroupsLie (w : World) (s : Sl) (gs : List Gr) : Prop := RowOf 2 Gr.cells w s gs ∧ ∀ g ∈ gs, g.ok w
theorem Gr.ok.below {w w' : World} {g : Gr} (h : g.ok w) (hb : Below w.heap.size w w') : g.ok w' := ⟨h.1.below hb, h.2.below hb⟩
theorem GroupsLie.below {w w' : World} {s : Sl} {gs : List Gr} (h : GroupsLie w s gs) (hb : Below w.heap.size w w') : GroupsLie w' s gs := ⟨h.1.below hb, fun g hg => (h.2 g hg).below hb⟩
theorem Ph.one (p : Ph) : p.cells.toArray.all (·.oneCell') = true := by simp [Ph.cells, Value.oneCell']
theorem Det.one (d : Det) : d.cells.toArray.all (·.oneCell') = true := by simp [Det.cells, Value.oneCell']
theorem Rl.one (r : Rl) : r.cells.toArray.all (·.oneCell') = true := by simp [Rl.cells, Value.oneCell']
theorem Bs.one (b : Bs) : b.cells.toArray.all (·.oneCell') = true := by simp [Bs.cells, Value.oneCell']
theorem Gr.one (g : Gr) : g.cells.toArray.all (·.oneCell') = true := by simp [Gr.cells, Value.oneCell']
/-- Where a table's four lists lie. -/
structure Hd where
  g : Sl
  d : Sl
  r : Sl
  b : Sl
def Tab.cells (T : Tab) (h : Hd) : List Value :=
  T.phases.flatMap Ph.cells ++ (h.g.val T.groups.length :: (T.conflict.map I ++ (h.d.val T.dets.length :: h.r.val T.rails.length :: h.b.val T.buses.length :: I T.extend :: I T.budget :: I T.start :: I T.revert :: I T.least ::
    (T.flash.map I ++ [I T.window, I T.share]))))
/-- A table's lists lie in memory as it says. -/
structure IsTab (w : World) (h : Hd) (T : Tab) : Prop where
  ph : T.phases.length = 8
  cf : T.conflict.length = 8
  fl : T.flash.length = 8
  groups : ∃ gs : List Gr, gs.map Gr.data = T.groups ∧ GroupsLie w h.g gs
  dets : RowOf 7 Det.cells w h.d T.dets
  rails : RowOf 11 Rl.cells w h.r T.rails
  buses : RowOf 2 Bs.cells w h.b T.buses
theorem IsTab.below {w w' : World} {h : Hd} {T : Tab} (k : IsTab w h T) (hb : Below w.heap.size w w') : IsTab w' h T :=
  ⟨k.ph, k.cf, k.fl, let ⟨gs, h1, h2⟩ := k.groups; ⟨gs, h1, h2.below hb⟩, k.dets.below hb, k.rails.below hb, k.buses.below hb⟩
theorem eight {α : Type} {l : List α} (h : l.length = 8) : ∃ a0 a1 a2 a3 a4 a5 a6 a7, l = [a0, a1, a2, a3, a4, a5, a6, a7] := by
  match l, h with
  | [a0, a1, a2, a3, a4, a5, a6, a7], _ => exact ⟨a0, a1, a2, a3, a4, a5, a6, a7, rfl⟩
/-- What stands where in a table's cells. -/
structure CellsOk (T : Tab) (h : Hd) (cs : Array Value) : Prop where
  size : cs.size = 131
  one : cs.all (·.oneCell') = true
  g : cs[104]? = some (h.g.val T.groups.length)
  d : cs[113]? = some (h.d.val T.dets.length)
  r : cs[114]? = some (h.r.val T.rails.length)
  b : cs[115]? = some (h.b.val T.buses.length)
  extend : cs[116]? = some (I T.extend)
  budget : cs[117]? = some (I T.budget)
  start : cs[118]? = some (I T.start)
  revert : cs[119]? = some (I T.revert)
  least : cs[120]? = some (I T.least)
  window : cs[129]? = some (I T.window)
  share : cs[130]? = some (I T.share)
  phases : cs.toList.take 104 = T.phases.flatMap Ph.cells
  conflict : (cs.toList.drop 105).take 8 = T.conflict.map I
  flash : (cs.toList.drop 121).take 8 = T.flash.map I
  phase : ∀ i p, T.phases[i]? = some p → (cs.toList.drop (13 * i)).take 13 = p.cells
theorem cells_ok {w : World} {h : Hd} {T : Tab} (k : IsTab w h T) : CellsOk T h (T.cells h).toArray := by
  obtain ⟨p0, p1, p2, p3, p4, p5, p6, p7, hp⟩ := eight k.ph
  obtain ⟨c0, c1, c2, c3, c4, c5, c6, c7, hc⟩ := eight k.cf
  obtain ⟨f0, f1, f2, f3, f4, f5, f6, f7, hf⟩ := eight k.fl
  clear k
  obtain ⟨phases, groups, conflict, dets, rails, buses, extend, budget, start, revert, least, flash, window, share⟩ := T
  simp only at hp hc hf
  subst hp hc hf
  constructor
  all_goals try rfl
  case one => simp [Tab.cells, Ph.cells, Value.oneCell']
  intro i p hp
  match i, hp with
  | 0, hp | 1, hp | 2, hp | 3, hp | 4, hp | 5, hp | 6, hp | 7, hp => 
    obtain rfl := Option.some.inj hp
    rfl
  | i + 8, hp => cases hp
/-- A block's part, out of what is known of its cells. -/
theorem range_of {w : World} {b : Nat} {C : Array Value} {t : TypeId} {fr : Nat × Nat} (hb : w.heap[b]? = some (.cells C t fr)) (o n : Nat) (cs : List Value) (h : (C.toList.drop o).take n = cs) : w.rangeAt b o cs := by
  subst h
  have h1 := World.rangeAt_of_block hb o n
  rwa [Array.toList_extract, List.extract, Nat.add_sub_cancel_left] at h1
end Tab
namespace TabArg
open Go Go.ChangeShapes Go.WideShapes Go.Deep Flat Tab
section
variable {H : Type} {enc : TypeId × Value → H} {P : Program} {w : World} {base : Nat} {spare : Nat → Bool} {held : Bool}
instance : Inhabited Gr := ⟨⟨[], [], ⟨none, 0⟩, ⟨none, 0⟩⟩⟩
abbrev B : TypeId := 4
end
end TabArg
namespace Cnt
open Go.ChangeShapes Go.WideShapes Go.ChangeAt Go.RowKit
theorem ret_int {k : IntKind} {a b : Int} (h : a = b) : Ending.returned (.int k a) = .returned (.int k b) := by rw [h]
/-- n, cut to a to b -/
def ct (n a b : Int) : Int := if n < a then a else if b < n then b else n
def more (n : Int) : Int := ct n 0 9999 + 1
theorem ct_lo {n a b : Int} (h : a ≤ b) : a ≤ ct n a b := by unfold ct; split <;> (try split) <;> omega
theorem ct_hi {n a b : Int} (h : a ≤ b) : ct n a b ≤ b := by unfold ct; split <;> (try split) <;> omega
theorem ct_in {n a b : Int} (h : a ≤ n) (h2 : n ≤ b) : ct n a b = n := by unfold ct; split <;> (try split) <;> omega
theorem more_lo (n : Int) : 1 ≤ more n := by unfold more; have := ct_lo (n := n) (a := 0) (b := 9999) (by decide); omega
theorem rcut_any (n a b : Int) (w : World) : Calls Try.prog 80 #[.int .i64 n, .int .i64 a, .int .i64 b] w fun e w' => e = .returned (.int .i64 (ct n a b)) ∧ w = w' := by
  by_cases h1 : n < a
  · have HE : Hid (ct n a b = a) := Lib.hid (by unfold ct; rw [if_pos h1])
    go_enter Try.func80, Try.ntmps80
    go_wp2
    go_ret
    exact ⟨ret_int HE.out.symm, rfl⟩
  by_cases h2 : b < n
  · have HE : Hid (ct n a b = b) := Lib.hid (by unfold ct; rw [if_neg h1, if_pos h2])
    go_enter Try.func80, Try.ntmps80
    go_wp2
    go_ret
    exact ⟨ret_int HE.out.symm, rfl⟩
  · have HE : Hid (ct n a b = n) := Lib.hid (by unfold ct; rw [if_neg h1, if_neg h2])
    go_enter Try.func80, Try.ntmps80
    go_wp2
    go_ret
    exact ⟨ret_int HE.out.symm, rfl⟩
theorem rmore1_any (n : Int) (w : World) : Calls Try.prog 98 #[.int .i64 n] w fun e w' => e = .returned (.int .i64 (more n)) ∧ w = w' := by
  have h0 := ct_lo (n := n) (a := 0) (b := 9999) (by decide)
  have h1 := ct_hi (n := n) (a := 0) (b := 9999) (by decide)
  have e1 : IntKind.i64.wrap (ct n 0 9999 + 1) = ct n 0 9999 + 1 := by rw [IntKind.wrap_i64]; omega
  go_enter Try.func98, Try.ntmps98
  go_wp2_with (go_at_call 80; refine (rcut_any _ _ _ _).mono ?_; rintro e w' ⟨rfl, rfl⟩)
  go_ret
  exact ⟨rfl, rfl⟩
theorem rmore_any (n : Int) (w : World) : Calls Try.prog 79 #[.int .i64 n] w fun e w' => e = .returned (.int .i64 (more n)) ∧ w = w' := by
  go_enter Try.func79, Try.ntmps79
  go_wp2_with (go_at_call 98; refine (rmore1_any _ _).mono ?_; rintro e w' ⟨rfl, rfl⟩)
  go_ret
  exact ⟨rfl, rfl⟩
end Cnt
namespace QB
open Go.RowKit
structure By (B : Nat) (w : World) where
  world : World
  below : Below B w world
instance {B : Nat} {w : World} : Inhabited (By B w) := ⟨⟨w, Below.refl _ _⟩⟩
theorem region_below {P : Program} {id : Nat} {Q : Exit → Act → World → Prop} {a : Act} {w : World} {l : List Oper} (B : Nat) (hm : P.follows .mixedOrders = true) (hB : Region.lexB .any l.toArray = true)
    (h : wpQuiet P l.toArray (fun w' => ∃ p : By B w, w' = p.world) (fun a' => ∀ w', (∃ p : By B w, w' = p.world) → Q .normal a' w') l a) : (Code.region id l.toArray true).wp P Q a w :=
  wp_region_quiet (C := fun w' => ∃ p : By B w, w' = p.world) hm hB ⟨⟨w.drew, (Below.refl _ _).drew⟩, rfl⟩ (by simpa using h)
/-- A callee's contract, met in a world of the class. -/
theorem call_of {P : Program} {f : FuncId} {args : Array Value} {B : Nat} {w : World} {p : By B w} {v : Value} (hB : B ≤ w.heap.size)
    (h : Below B w p.world → Calls P f args p.world fun e w' => e = .returned v ∧ Below p.world.heap.size p.world w') :
    Calls P f args p.world fun e w'' => e = .returned v ∧ ∃ q : By B w, w'' = q.world :=
  (h p.below).mono fun _ w'' ⟨he, hb⟩ => ⟨he, ⟨w'', p.below.trans (hb.mono (Nat.le_trans hB p.below.size))⟩, rfl⟩
/-- A still head, and a chain behind it. -/
theorem region_tail {P : Program} {w : World} {id : Nat} {Q : Exit → Act → World → Prop} {a : Act} {l : List Oper} (n : Nat) (hm : P.follows .mixedOrders = true) (hB : Region.lexTailB .any l.toArray n = true)
    (h : wpStill P l.toArray w.drew (fun a' => wpList P l.toArray Q (l.drop n) a' w.drew) (l.take n) a) : (Code.region id l.toArray true).wp P Q a w :=
  wp_region_still_tail n hm hB h
end QB
end Go.Proofs.Ytneaomdgjlmleaa
