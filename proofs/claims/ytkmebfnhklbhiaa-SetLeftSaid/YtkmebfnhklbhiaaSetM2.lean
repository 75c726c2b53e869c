/- More of the plain mathematics of sets of phases: what With and Without change. No condition on the integers. -/
import Derived.Test.YtkmebfnhklbhiaaSetM
namespace Go.Proofs.Ytkmebfnhklbhiaa.SetM

theorem has_of (m : Nat) (h : m < 256) (p : Int) : has (m : Int) p = (decide (0 ≤ p) && m.testBit p.toNat) := by unfold has; rw [low_nat m h]
theorem has_with (s p q : Int) : has (withN s p : Nat) q = (has s q || (bit p != 0 && q == p)) := by
  rw [has_of _ (with_lt s p)]
  unfold withN
  by_cases h0 : 0 ≤ q
  · obtain ⟨k, rfl⟩ := Int.eq_ofNat_of_zero_le h0
    rw [decide_eq_true h0, Bool.true_and, Nat.testBit_or, Int.toNat_natCast, has_nat, test_bit]
    congr 1
    rw [Bool.eq_iff_iff, decide_eq_true_iff, Bool.and_eq_true, bne_iff_ne, beq_iff_eq]
    constructor
    · rintro ⟨e, h8⟩
      rw [← e, bit_in k h8]
      exact ⟨Nat.ne_of_gt (Nat.two_pow_pos k), rfl⟩
    · rintro ⟨h1, e⟩
      refine ⟨e, ?_⟩
      by_cases h8 : k < 8
      · exact h8
      · exact absurd (bit_out (p := p) (by omega)) h1
  · rw [decide_eq_false h0, Bool.false_and, has_neg s q (by omega), Bool.false_or]
    symm
    rw [Bool.and_eq_false_iff]
    by_cases e : q = p
    · left; rw [bit_out (by omega)]; rfl
    · right; simpa using e
theorem has_without (s p q : Int) : has (withoutN s p : Nat) q = (has s q && !(q == p)) := by
  have h1 : has (withoutN s p : Nat) q = decide (q ∈ (list s).filter fun q => q != p) := by
    rw [← of_without, has_of _ (of_lt _)]
    by_cases h0 : 0 ≤ q
    · obtain ⟨k, rfl⟩ := Int.eq_ofNat_of_zero_le h0
      rw [decide_eq_true h0, Bool.true_and, Int.toNat_natCast, of_test, Bool.eq_iff_iff, decide_eq_true_iff, decide_eq_true_iff]
      refine ⟨fun h => h.1, fun h => ⟨h, ?_⟩⟩
      have := list_bd s k (List.mem_filter.1 h).1
      omega
    · rw [decide_eq_false h0, Bool.false_and]
      symm
      rw [decide_eq_false_iff_not]
      intro h
      have := list_bd s q (List.mem_filter.1 h).1
      omega
  rw [h1, Bool.eq_iff_iff, decide_eq_true_iff, List.mem_filter, mem_list, Bool.and_eq_true]
  rfl
theorem with_in (s k : Int) (h0 : 0 ≤ k) (h8 : k < 8) : has (withN s k : Nat) k = true := by
  obtain ⟨j, rfl⟩ := Int.eq_ofNat_of_zero_le h0
  rw [has_with, bit_in j (by omega)]
  have := Nat.two_pow_pos j
  simp
theorem with_other (s k q : Int) (h : q ≠ k) : has (withN s k : Nat) q = has s q := by rw [has_with]; simp [h]
theorem without_in (s k : Int) : has (withoutN s k : Nat) k = false := by rw [has_without]; simp
theorem without_other (s k q : Int) (h : q ≠ k) : has (withoutN s k : Nat) q = has s q := by rw [has_without]; simp [h]
theorem has_ext {m m' : Nat} (h : m < 256) (h' : m' < 256) (e : ∀ q : Int, has (m : Int) q = has (m' : Int) q) : m = m' := by
  refine eq_of h h' fun k _ => ?_
  have := e (k : Int)
  rwa [has_nat, has_nat, low_nat m h, low_nat m' h'] at this
theorem with_without (s k : Int) : withN (withoutN s k : Nat) k = withN s k := by
  refine has_ext (with_lt _ _) (with_lt _ _) fun q => ?_
  rw [has_with, has_with, has_without]
  by_cases e : q = k
  · subst e
    by_cases h : 0 ≤ q ∧ q < 8
    · obtain ⟨j, rfl⟩ := Int.eq_ofNat_of_zero_le h.1
      rw [bit_in j (by omega)]
      have := Nat.two_pow_pos j
      simp
    · have : has s q = false := by
        by_cases h1 : q < 0
        · exact has_neg s q h1
        · exact has_big s q (by omega)
      rw [this]; rfl
  · have hb : (q == k) = false := beq_eq_false_iff_ne.2 e
    rw [hb]; cases has s q <;> cases (bit k != 0) <;> rfl
theorem without_with (s k : Int) : withoutN (withN s k : Nat) k = withoutN s k := by
  refine has_ext (without_lt _ _) (without_lt _ _) fun q => ?_
  rw [has_without, has_without, has_with]
  cases has s q <;> cases (bit k != 0) <;> cases (q == k) <;> rfl
theorem count_fin : ∀ m : Fin 256, ∀ k : Fin 8, ((List.range 8).filter fun j => (m.val ||| 2 ^ k.val).testBit j).length = ((List.range 8).filter fun j => (m.val &&& (255 - 2 ^ k.val)).testBit j).length + 1 := by decide +kernel
theorem len_of (m : Nat) (h : m < 256) : (list (m : Int)).length = ((List.range 8).filter fun j => m.testBit j).length := by
  unfold list upto; rw [List.length_map, low_nat m h]
theorem count_with (s k : Int) (h0 : 0 ≤ k) (h8 : k < 8) : (list (withN s k : Nat)).length = (list (withoutN s k : Nat)).length + 1 := by
  rw [len_of _ (with_lt s k), len_of _ (without_lt s k)]
  obtain ⟨j, rfl⟩ := Int.eq_ofNat_of_zero_le h0
  have h := count_fin ⟨low s, low_lt s⟩ ⟨j, by omega⟩
  unfold withN withoutN
  rw [bit_in j (by omega)]
  exact h

end Go.Proofs.Ytkmebfnhklbhiaa.SetM
