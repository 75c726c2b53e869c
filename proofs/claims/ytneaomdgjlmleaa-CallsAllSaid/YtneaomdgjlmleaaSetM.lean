/- The plain mathematics of sets of phases: the lowest eight bits of an integer, the set of a list, the list of a set. No condition on the integers. -/
import Derived.Laws.BitsLemmas
namespace Go.Proofs.Ytneaomdgjlmleaa.SetM

/-- The lowest eight bits. -/
def low (s : Int) : Nat := (s % 256).toNat
theorem low_lt (s : Int) : low s < 256 := by unfold low; omega
theorem low_nat (m : Nat) (h : m < 256) : low (m : Int) = m := by unfold low; omega
theorem low_cast (s : Int) : ((low s : Nat) : Int) = s % 256 := by unfold low; omega

/-- Is p a phase of s? -/
def has (s p : Int) : Bool := decide (0 ≤ p) && (low s).testBit p.toNat
/-- The set of p alone: empty if p is not a phase. -/
def bit (p : Int) : Nat := if 0 ≤ p ∧ p < 8 then 2 ^ p.toNat else 0
def withN (s p : Int) : Nat := low s ||| bit p
def withoutN (s p : Int) : Nat := low s &&& (255 - bit p)

theorem toNat_low (s : Int) : (BitVec.ofInt 64 s).toNat % 256 = low s := by
  rw [BitVec.toNat_ofInt]
  unfold low
  show (s % ((18446744073709551616 : Nat) : Int)).toNat % 256 = _
  omega
theorem toNat_ofNat (b : Nat) (h : b < 256) : (BitVec.ofInt 64 (b : Int)).toNat = b := by
  rw [BitVec.toNat_ofInt]
  show ((b : Int) % ((18446744073709551616 : Nat) : Int)).toNat = _
  omega
theorem low_wrap (n : Nat) : low (IntKind.i64.wrap (n : Int)) = n % 256 := by
  rw [IntKind.wrap_i64]; unfold low; omega
theorem wrap_small (n : Nat) (h : n < 256) : IntKind.i64.wrap (n : Int) = n := by
  rw [IntKind.wrap_i64]; omega

theorem and_low (s : Int) (b : Nat) (h : b < 256) : bits .and .i64 s (b : Int) = ((low s &&& b : Nat) : Int) := by
  show IntKind.i64.wrap ((BitVec.ofInt 64 s &&& BitVec.ofInt 64 (b : Int)).toNat : Nat) = _
  rw [BitVec.toNat_and, toNat_ofNat b h]
  have h1 : (BitVec.ofInt 64 s).toNat &&& b < 256 := Nat.and_lt_two_pow (n := 8) _ h
  have h2 : ((BitVec.ofInt 64 s).toNat &&& b) % 2 ^ 8 = _ := Nat.and_mod_two_pow
  rw [wrap_small _ h1, ← toNat_low s]
  rw [Nat.mod_eq_of_lt h1, Nat.mod_eq_of_lt (show b < 2 ^ 8 from h)] at h2
  rw [h2]
theorem and_255 (s : Int) : bits .and .i64 s 255 = (low s : Int) := by
  have := and_low s 255 (by decide)
  have h2 : low s &&& 255 = low s := by
    have h3 := Nat.and_two_pow_sub_one_eq_mod (low s) 8
    have h4 := low_lt s
    rw [show (2 ^ 8 - 1 : Nat) = 255 from rfl] at h3
    rw [h3]; omega
  rw [h2] at this
  exact this
theorem or_low (s : Int) (b : Nat) (h : b < 256) : low (bits .or .i64 s (b : Int)) = low s ||| b := by
  show low (IntKind.i64.wrap ((BitVec.ofInt 64 s ||| BitVec.ofInt 64 (b : Int)).toNat : Nat)) = _
  rw [low_wrap, BitVec.toNat_or, toNat_ofNat b h, ← toNat_low s]
  have h2 : ((BitVec.ofInt 64 s).toNat ||| b) % 2 ^ 8 = _ := Nat.or_mod_two_pow
  rw [Nat.mod_eq_of_lt (show b < 2 ^ 8 from h)] at h2
  exact h2
theorem andNot_low (s : Int) (b : Nat) (h : b < 256) : low (bits .andNot .i64 s (b : Int)) = low s &&& (255 - b) := by
  show low (IntKind.i64.wrap ((BitVec.ofInt 64 s &&& ~~~ BitVec.ofInt 64 (b : Int)).toNat : Nat)) = _
  rw [low_wrap, BitVec.toNat_and, BitVec.toNat_not, toNat_ofNat b h, ← toNat_low s]
  have h2 : ((BitVec.ofInt 64 s).toNat &&& (2 ^ 64 - 1 - b)) % 2 ^ 8 = _ := Nat.and_mod_two_pow
  rw [show (2 ^ 64 - 1 - b) % 2 ^ 8 = 255 - b by omega] at h2
  exact h2

theorem bit_lt (p : Int) : bit p < 256 := by
  unfold bit
  split
  · rename_i h
    have : 2 ^ p.toNat ≤ 2 ^ 7 := Nat.pow_le_pow_right (by decide) (by omega)
    omega
  · decide
theorem bit_out {p : Int} (h : ¬ (0 ≤ p ∧ p < 8)) : bit p = 0 := by unfold bit; rw [if_neg h]
theorem bit_in (k : Nat) (h : k < 8) : bit (k : Int) = 2 ^ k := by unfold bit; rw [if_pos ⟨by omega, by omega⟩]; simp

theorem with_lt (s p : Int) : withN s p < 256 := Nat.or_lt_two_pow (n := 8) (low_lt s) (bit_lt p)
theorem without_lt (s p : Int) : withoutN s p < 256 := Nat.lt_of_le_of_lt Nat.and_le_left (low_lt s)
theorem with_bits (s p : Int) : bits .and .i64 (bits .or .i64 s (bit p)) 255 = (withN s p : Int) := by
  rw [and_255, or_low s _ (bit_lt p)]; rfl
theorem without_bits (s p : Int) : bits .and .i64 (bits .andNot .i64 s (bit p)) 255 = (withoutN s p : Int) := by
  rw [and_255, andNot_low s _ (bit_lt p)]; rfl

theorem test_high (m k : Nat) (h : m < 256) (hk : 8 ≤ k) : m.testBit k = false :=
  Nat.testBit_lt_two_pow (Nat.lt_of_lt_of_le h (Nat.pow_le_pow_right (n := 2) (by decide) hk : 2 ^ 8 ≤ 2 ^ k))
theorem test_bit (p : Int) (k : Nat) : (bit p).testBit k = decide ((k : Int) = p ∧ k < 8) := by
  unfold bit
  split
  · rename_i h
    rw [Nat.testBit_two_pow]
    rw [Bool.eq_iff_iff, decide_eq_true_iff, decide_eq_true_iff]
    omega
  · rename_i h
    rw [Nat.zero_testBit]
    symm
    rw [decide_eq_false_iff_not]
    omega
theorem has_neg (s p : Int) (h : p < 0) : has s p = false := by unfold has; rw [decide_eq_false (by omega)]; rfl
theorem has_big (s p : Int) (h : 8 ≤ p) : has s p = false := by
  unfold has; rw [test_high _ _ (low_lt s) (by omega), Bool.and_false]
theorem has_nat (s : Int) (k : Nat) : has s k = (low s).testBit k := by unfold has; simp
theorem has_and (s p : Int) : (bits .and .i64 s (bit p) = 0) ↔ has s p = false := by
  rw [and_low s _ (bit_lt p)]
  by_cases h : 0 ≤ p ∧ p < 8
  · obtain ⟨k, rfl⟩ := Int.eq_ofNat_of_zero_le h.1
    rw [bit_in k (by omega), has_nat]
    cases hb : (low s).testBit k
    · have h2 : low s &&& 2 ^ k = 0 := by
        apply Nat.eq_of_testBit_eq
        intro j
        rw [Nat.testBit_and, Nat.testBit_two_pow, Nat.zero_testBit]
        by_cases e : k = j
        · rw [← e, hb]; rfl
        · rw [decide_eq_false e, Bool.and_false]
      rw [h2]; simp
    · have h2 : low s &&& 2 ^ k ≠ 0 := by
        intro h3
        have h4 := congrArg (fun n => n.testBit k) h3
        simp only [Nat.testBit_and, Nat.testBit_two_pow, Nat.zero_testBit, hb] at h4
        simp at h4
      simp; omega
  · rw [bit_out h, Nat.and_zero]
    have h2 : has s p = false := by
      by_cases h3 : p < 0
      · exact has_neg s p h3
      · exact has_big s p (by omega)
    simp [h2]
/-- The document's own way to ask it. -/
theorem has_shr (s : Int) (k : Nat) (h : k < 8) : bits .and .i64 (s / 2 ^ k) 1 = if has s k then 1 else 0 := by
  have h1 := and_low (s / 2 ^ k) 1 (by decide)
  have h2 : low (s / 2 ^ k) &&& 1 = low s / 2 ^ k % 2 := by
    rw [Nat.and_one_is_mod]
    have h3 : k = 0 ∨ k = 1 ∨ k = 2 ∨ k = 3 ∨ k = 4 ∨ k = 5 ∨ k = 6 ∨ k = 7 := by omega
    unfold low
    rcases h3 with rfl | rfl | rfl | rfl | rfl | rfl | rfl | rfl
    all_goals (simp only [Nat.reducePow, Int.reducePow]; omega)
  rw [h2] at h1
  rw [has_nat, Nat.testBit_eq_decide_div_mod_eq]
  rw [show ((1 : Nat) : Int) = 1 from rfl] at h1
  rw [h1]
  have h4 : low s / 2 ^ k % 2 < 2 := Nat.mod_lt _ (by decide)
  split <;> rename_i h5
  · rw [of_decide_eq_true h5]; rfl
  · have : low s / 2 ^ k % 2 = 0 := by simp at h5; omega
    rw [this]; rfl

/-- The phases below k. -/
def upto (s : Int) (k : Nat) : List Int := ((List.range k).filter fun j => (low s).testBit j).map Int.ofNat
def list (s : Int) : List Int := upto s 8
theorem upto_zero (s : Int) : upto s 0 = [] := rfl
theorem upto_hit (s : Int) (k : Nat) (h : has s k = true) : upto s (k + 1) = upto s k ++ [(k : Int)] := by
  rw [has_nat] at h
  unfold upto; rw [List.range_succ, List.filter_append, List.map_append]; simp [h]
theorem upto_miss (s : Int) (k : Nat) (h : has s k = false) : upto s (k + 1) = upto s k := by
  rw [has_nat] at h
  unfold upto; rw [List.range_succ, List.filter_append, List.map_append]; simp [h]
theorem upto_len (s : Int) (k : Nat) : (upto s k).length ≤ k := by
  unfold upto; rw [List.length_map]; have := List.length_filter_le (fun j => (low s).testBit j) (List.range k); simpa using this
theorem upto_pre (s : Int) (k d : Nat) : upto s k <+: upto s (k + d) := by
  unfold upto; rw [List.range_add, List.filter_append, List.map_append]; exact List.prefix_append _ _
theorem list_len (s : Int) : (list s).length ≤ 8 := upto_len s 8
theorem upto_lt (s : Int) (k : Nat) (h : k < 8) (h' : has s k = true) : (upto s k).length < (list s).length := by
  have h1 := (upto_pre s (k + 1) (8 - (k + 1))).length_le
  rw [show k + 1 + (8 - (k + 1)) = 8 by omega, upto_hit s k h', List.length_append] at h1
  unfold list
  simp at h1 ⊢
  omega
theorem upto_list (s : Int) (k : Nat) (h : k ≤ 8) : upto s k <+: list s := by
  have := upto_pre s k (8 - k)
  rwa [show k + (8 - k) = 8 by omega] at this
theorem mem_list (s p : Int) : p ∈ list s ↔ has s p = true := by
  unfold list upto
  rw [List.mem_map]
  constructor
  · rintro ⟨j, hj, rfl⟩
    rw [List.mem_filter] at hj
    rw [show Int.ofNat j = (j : Int) from rfl, has_nat]; exact hj.2
  · intro h
    have h0 : 0 ≤ p := by
      by_cases h1 : 0 ≤ p
      · exact h1
      · rw [has_neg s p (by omega)] at h; cases h
    have h8 : p < 8 := by
      by_cases h1 : p < 8
      · exact h1
      · rw [has_big s p (by omega)] at h; cases h
    obtain ⟨k, rfl⟩ := Int.eq_ofNat_of_zero_le h0
    rw [has_nat] at h
    have h9 : k < 8 := by omega
    exact ⟨k, List.mem_filter.2 ⟨List.mem_range.2 h9, h⟩, rfl⟩
theorem list_bd (s p : Int) (h : p ∈ list s) : 0 ≤ p ∧ p < 8 := by
  unfold list upto at h
  obtain ⟨j, hj, rfl⟩ := List.mem_map.1 h
  have := List.mem_range.1 (List.mem_filter.1 hj).1
  rw [show Int.ofNat j = (j : Int) from rfl]
  omega

/-- The set of a list. -/
def of (l : List Int) : Nat := l.foldl (fun m p => m ||| bit p) 0
theorem of_nil : of [] = 0 := rfl
theorem of_snoc (l : List Int) (p : Int) : of (l ++ [p]) = of l ||| bit p := by unfold of; rw [List.foldl_append]; rfl
theorem fold_lt (l : List Int) (m : Nat) (h : m < 256) : l.foldl (fun m p => m ||| bit p) m < 256 := by
  induction l generalizing m with
  | nil => exact h
  | cons p l ih => exact ih _ (Nat.or_lt_two_pow (n := 8) h (bit_lt p))
theorem of_lt (l : List Int) : of l < 256 := fold_lt l 0 (by decide)
theorem with_of (l : List Int) (p : Int) : withN (of l : Nat) p = of (l ++ [p]) := by
  rw [of_snoc]; unfold withN; rw [low_nat _ (of_lt l)]
theorem fold_test (l : List Int) (m k : Nat) : (l.foldl (fun m p => m ||| bit p) m).testBit k = (m.testBit k || decide ((k : Int) ∈ l ∧ k < 8)) := by
  induction l generalizing m with
  | nil => simp
  | cons p l ih =>
    rw [List.foldl_cons, ih, Nat.testBit_or, test_bit, Bool.or_assoc]
    congr 1
    rw [Bool.eq_iff_iff, Bool.or_eq_true, decide_eq_true_iff, decide_eq_true_iff, decide_eq_true_iff, List.mem_cons]
    constructor
    · rintro (⟨a, b⟩ | ⟨a, b⟩)
      · exact ⟨.inl a, b⟩
      · exact ⟨.inr a, b⟩
    · rintro ⟨a | a, b⟩
      · exact .inl ⟨a, b⟩
      · exact .inr ⟨a, b⟩
theorem of_test (l : List Int) (k : Nat) : (of l).testBit k = decide ((k : Int) ∈ l ∧ k < 8) := by
  unfold of; rw [fold_test, Nat.zero_testBit, Bool.false_or]
theorem eq_of {m m' : Nat} (h : m < 256) (h' : m' < 256) (e : ∀ k, k < 8 → m.testBit k = m'.testBit k) : m = m' := by
  apply Nat.eq_of_testBit_eq
  intro k
  by_cases hk : k < 8
  · exact e k hk
  · rw [test_high m k h (by omega), test_high m' k h' (by omega)]

/-- The document's own way to make it: phase by phase. -/
def refOf (l : List Int) : Nat → Nat
  | 0 => 0
  | k + 1 => if (k : Int) ∈ l then refOf l k ||| 2 ^ k else refOf l k
theorem refOf_hit (l : List Int) (k : Nat) (h : (k : Int) ∈ l) : refOf l (k + 1) = refOf l k ||| 2 ^ k := by rw [refOf, if_pos h]
theorem refOf_miss (l : List Int) (k : Nat) (h : ¬ (k : Int) ∈ l) : refOf l (k + 1) = refOf l k := by rw [refOf, if_neg h]
theorem refOf_lt (l : List Int) (k : Nat) : refOf l k < 2 ^ k := by
  induction k with
  | zero => exact Nat.one_pos
  | succ k ih =>
    have h1 : refOf l k < 2 ^ (k + 1) := Nat.lt_of_lt_of_le ih (Nat.pow_le_pow_right (by decide) (by omega))
    rw [refOf]
    split
    · exact Nat.or_lt_two_pow h1 (Nat.pow_lt_pow_right (by decide) (by omega))
    · exact h1
theorem refOf_test (l : List Int) (k j : Nat) : (refOf l k).testBit j = decide (j < k ∧ (j : Int) ∈ l) := by
  induction k with
  | zero => simp [refOf]
  | succ k ih =>
    by_cases h : (k : Int) ∈ l
    · rw [refOf_hit l k h, Nat.testBit_or, ih, Nat.testBit_two_pow, Bool.eq_iff_iff, Bool.or_eq_true, decide_eq_true_iff, decide_eq_true_iff, decide_eq_true_iff]
      constructor
      · rintro (⟨a, b⟩ | rfl)
        · exact ⟨by omega, b⟩
        · exact ⟨by omega, h⟩
      · rintro ⟨a, b⟩
        by_cases e : k = j
        · exact .inr e
        · exact .inl ⟨by omega, b⟩
    · rw [refOf_miss l k h, ih, Bool.eq_iff_iff, decide_eq_true_iff, decide_eq_true_iff]
      constructor
      · rintro ⟨a, b⟩
        exact ⟨by omega, b⟩
      · rintro ⟨a, b⟩
        have : j ≠ k := by rintro rfl; exact h b
        exact ⟨by omega, b⟩
theorem refOf_eq (l : List Int) : refOf l 8 = of l := by
  refine eq_of (refOf_lt l 8) (of_lt l) fun k hk => ?_
  rw [refOf_test, of_test, Bool.eq_iff_iff, decide_eq_true_iff, decide_eq_true_iff, and_comm]
theorem list_test (s : Int) (k : Nat) (hk : k < 8) : decide ((k : Int) ∈ list s ∧ k < 8) = (low s).testBit k := by
  rw [Bool.eq_iff_iff, decide_eq_true_iff, mem_list, has_nat]
  exact ⟨fun h => h.1, fun h => ⟨h, hk⟩⟩
theorem of_list (s : Int) : of (list s) = low s := by
  refine eq_of (of_lt _) (low_lt s) fun k hk => ?_
  rw [of_test, list_test s k hk]
theorem of_with (s p : Int) : of (list s ++ [p]) = withN s p := by
  rw [of_snoc, of_list]; rfl
theorem of_without (s p : Int) : of ((list s).filter fun q => q != p) = withoutN s p := by
  refine eq_of (of_lt _) (without_lt s p) fun k hk => ?_
  have h1 : (255 - bit p).testBit k = !(bit p).testBit k := by
    have := Nat.testBit_two_pow_sub_succ (n := 8) (x := bit p) (bit_lt p) k
    rw [show (2 ^ 8 - (bit p + 1) : Nat) = 255 - bit p by omega] at this
    rw [this, decide_eq_true hk, Bool.true_and]
  rw [of_test]
  unfold withoutN
  rw [Nat.testBit_and, h1, test_bit, ← list_test s k hk]
  rw [Bool.eq_iff_iff, Bool.and_eq_true, Bool.not_eq_true', decide_eq_true_iff, decide_eq_true_iff, decide_eq_false_iff_not, List.mem_filter, bne_iff_ne]
  constructor
  · rintro ⟨⟨a, b⟩, c⟩
    exact ⟨⟨a, c⟩, fun h => b h.1⟩
  · rintro ⟨⟨a, c⟩, b⟩
    exact ⟨⟨a, fun h => b ⟨h, c⟩⟩, c⟩

def first (s : Int) : Int := (list s).headD (-1)
end Go.Proofs.Ytneaomdgjlmleaa.SetM
