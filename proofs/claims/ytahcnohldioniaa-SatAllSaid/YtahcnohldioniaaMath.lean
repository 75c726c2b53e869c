/- Plain mathematics of sums and products that saturate at 0 and at 2^31 - 1: order, brackets, sums of products, monotony. -/
import Derived.Test.YtahcnohldioniaaSat
namespace Go.Proofs.Ytahcnohldioniaa.Sat

theorem cap_mm (n : Int) : cap n = max 0 (min n 2147483647) := by unfold cap; split <;> (try split) <;> omega
theorem add_mm (a b : Int) : add a b = max 0 (min (max 0 (min a 2147483647) + max 0 (min b 2147483647)) 2147483647) := by unfold add; rw [cap_mm, cap_mm, cap_mm]
theorem sub_mm (a b : Int) : sub a b = max 0 (min (max 0 (min a 2147483647) - max 0 (min b 2147483647)) 2147483647) := by unfold sub; rw [cap_mm, cap_mm, cap_mm]
theorem add_comm (a b : Int) : add a b = add b a := by unfold add; rw [Int.add_comm]
theorem mul_comm (a b : Int) : mul a b = mul b a := by unfold mul; rw [Int.mul_comm]
theorem add_assoc (a b c : Int) : add (add a b) c = add a (add b c) := by
  simp only [add_mm]; omega
/-- a factor may be cut first -/
theorem cap_mul (p z : Int) (hp : 0 ≤ p) (hz : 0 ≤ z) : cap (cap p * z) = cap (p * z) := by
  by_cases h : p ≤ 2147483647
  · rw [cap_in hp h]
  · rw [cap_big (n := p) (by omega)]
    by_cases h0 : z = 0
    · subst h0; simp
    · have e1 : (2147483647 : Int) ≤ 2147483647 * z := by omega
      have e2 : p * 1 ≤ p * z := Int.mul_le_mul_of_nonneg_left (by omega) hp
      have c1 : ∀ m : Int, 2147483647 ≤ m → cap m = 2147483647 := by
        intro m hm
        by_cases e : m = 2147483647
        · subst e; decide
        · exact cap_big (by omega)
      rw [c1 _ e1, c1 _ (by omega)]
theorem mul_cap (z p : Int) (hp : 0 ≤ p) (hz : 0 ≤ z) : cap (z * cap p) = cap (z * p) := by
  rw [Int.mul_comm, cap_mul p z hp hz, Int.mul_comm]
theorem cap_of_mul (a b : Int) : cap (mul a b) = mul a b := by unfold mul; rw [cap_cap]
theorem cap_of_add (a b : Int) : cap (add a b) = add a b := by unfold add; rw [cap_cap]
theorem mul_assoc (a b c : Int) : mul (mul a b) c = mul a (mul b c) := by
  have ha := cap_lo a
  have hb := cap_lo b
  have hc := cap_lo c
  have e1 : mul (mul a b) c = cap (cap a * cap b * cap c) := by
    show cap (cap (mul a b) * cap c) = _
    rw [cap_of_mul]
    exact cap_mul _ _ (Int.mul_nonneg ha hb) hc
  have e2 : mul a (mul b c) = cap (cap a * (cap b * cap c)) := by
    show cap (cap a * cap (mul b c)) = _
    rw [cap_of_mul]
    exact mul_cap _ _ (Int.mul_nonneg hb hc) ha
  rw [e1, e2, Int.mul_assoc]
theorem cap_sum (p q : Int) (hp : 0 ≤ p) (hq : 0 ≤ q) : cap (cap p + cap q) = cap (p + q) := by
  simp only [cap_mm]; omega
theorem mul_add (a b c : Int) : mul a (add b c) = add (mul a b) (mul a c) := by
  have ha := cap_lo a
  have hb := cap_lo b
  have hc := cap_lo c
  have e1 : mul a (add b c) = cap (cap a * (cap b + cap c)) := by
    show cap (cap a * cap (add b c)) = _
    rw [cap_of_add]
    exact mul_cap _ _ (by omega) ha
  have e2 : add (mul a b) (mul a c) = cap (cap a * cap b + cap a * cap c) := by
    show cap (cap (mul a b) + cap (mul a c)) = _
    rw [cap_of_mul, cap_of_mul]
    exact cap_sum _ _ (Int.mul_nonneg ha hb) (Int.mul_nonneg ha hc)
  rw [e1, e2, Int.mul_add]
theorem cap_mono {a b : Int} (h : a ≤ b) : cap a ≤ cap b := by simp only [cap_mm]; omega
theorem add_mono {a c : Int} (b : Int) (h : a ≤ c) : add a b ≤ add c b := by simp only [add_mm]; omega
theorem sub_mono {a c : Int} (b : Int) (h : a ≤ c) : sub a b ≤ sub c b := by simp only [sub_mm]; omega
theorem mul_mono {a c : Int} (b : Int) (h : a ≤ c) : mul a b ≤ mul c b := by
  unfold mul
  exact cap_mono (Int.mul_le_mul_of_nonneg_right (cap_mono h) (cap_lo b))
theorem sub_back (a b : Int) (h : full (add a b) = false) : sub (add a b) b = cap a := by
  unfold full at h
  have h' := of_decide_eq_false h
  simp only [add_mm, sub_mm, cap_mm] at *; omega
theorem add_bd (a b : Int) : 0 ≤ add a b ∧ add a b ≤ 2147483647 := ⟨cap_lo _, cap_hi _⟩
theorem sub_bd (a b : Int) : 0 ≤ sub a b ∧ sub a b ≤ 2147483647 := ⟨cap_lo _, cap_hi _⟩
theorem mul_bd' (a b : Int) : 0 ≤ mul a b ∧ mul a b ≤ 2147483647 := ⟨cap_lo _, cap_hi _⟩

theorem add_zero_cap (x : Int) (h : cap x = x) : add x 0 = x := by unfold add; rw [show cap 0 = 0 from by decide, Int.add_zero, cap_cap, h]
theorem fold_cap (l : List Int) (x : Int) (h : cap x = x) : cap (l.foldl add x) = l.foldl add x := by
  induction l generalizing x with
  | nil => exact h
  | cons y l ih => exact ih _ (cap_of_add _ _)
theorem fold_add (l : List Int) (x y : Int) : l.foldl add (add x y) = add x (l.foldl add y) := by
  induction l generalizing y with
  | nil => rfl
  | cons z l ih => rw [List.foldl_cons, add_assoc, ih, List.foldl_cons]
theorem sums_append (l m : List Int) : sums (l ++ m) = add (sums l) (sums m) := by
  unfold sums
  rw [List.foldl_append, ← fold_add, add_zero_cap _ (fold_cap l 0 (by decide))]

end Go.Proofs.Ytahcnohldioniaa.Sat
