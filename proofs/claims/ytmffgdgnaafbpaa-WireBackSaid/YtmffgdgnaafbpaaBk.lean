/- Numbers and floats as bytes one behind the other, and back: plain mathematics. -/
import Derived.Test.YtmffgdgnaafbpaaNx
namespace Go.Proofs.Ytmffgdgnaafbpaa.Bk
open Go.ChangeShapes Go.WideShapes Go.ChangeAt Go.RowKit
open B Put Nx
set_option linter.unusedVariables false

/-- The size of number i. -/
def sz (i : Nat) : Nat := 1 + i % 7
/-- The first n numbers, as bytes. -/
def nums (z : List Int) : Nat → List Nat
  | 0 => []
  | n + 1 => nums z n ++ low (sz n) (z.getD n 0)
/-- Behind the bytes b, the first n floats. -/
def flts (b : List Nat) (x : Nat → Nat) : Nat → List Nat
  | 0 => b
  | n + 1 => flts b x n ++ low 8 (x n : Nat)
theorem nums_len (z : List Int) (n : Nat) : (nums z n).length ≤ 7 * n := by
  induction n with
  | zero => exact Nat.le_refl _
  | succ n ih => rw [nums, List.length_append, low_len]; unfold sz; omega
theorem flts_len (b : List Nat) (x : Nat → Nat) (n : Nat) : (flts b x n).length = b.length + 8 * n := by
  induction n with
  | zero => rfl
  | succ n ih => rw [flts, List.length_append, low_len, ih]; omega
theorem nums_lt (z : List Int) (n : Nat) : ∀ y ∈ nums z n, y < 256 := by
  induction n with
  | zero => simp [nums]
  | succ n ih => intro y hy; exact (List.mem_append.1 hy).elim (ih y) (low_lt _ _ y)
theorem flts_lt (b : List Nat) (hb : ∀ y ∈ b, y < 256) (x : Nat → Nat) (n : Nat) : ∀ y ∈ flts b x n, y < 256 := by
  induction n with
  | zero => exact hb
  | succ n ih => intro y hy; exact (List.mem_append.1 hy).elim (ih y) (low_lt _ _ y)
theorem nums_split (z : List Int) (j n : Nat) (h : j < n) : ∃ R, nums z n = nums z j ++ (low (sz j) (z.getD j 0) ++ R) := by
  induction n with
  | zero => omega
  | succ n ih =>
    by_cases hj : j = n
    · subst hj; exact ⟨[], by rw [nums, List.append_nil]⟩
    · obtain ⟨R, hR⟩ := ih (by omega)
      exact ⟨R ++ low (sz n) (z.getD n 0), by rw [nums, hR]; simp⟩
theorem flts_pre (b : List Nat) (x : Nat → Nat) (n : Nat) : ∃ R, flts b x n = b ++ R := by
  induction n with
  | zero => exact ⟨[], by rw [flts, List.append_nil]⟩
  | succ n ih => obtain ⟨R, hR⟩ := ih; exact ⟨R ++ low 8 (x n : Nat), by rw [flts, hR]; simp⟩
theorem flts_split (b : List Nat) (x : Nat → Nat) (j n : Nat) (h : j < n) : ∃ R, flts b x n = flts b x j ++ (low 8 (x j : Nat) ++ R) := by
  induction n with
  | zero => omega
  | succ n ih =>
    by_cases hj : j = n
    · subst hj; exact ⟨[], by rw [flts, List.append_nil]⟩
    · obtain ⟨R, hR⟩ := ih (by omega)
      exact ⟨R ++ low 8 (x n : Nat), by rw [flts, hR]; simp⟩
theorem be_low (k : Nat) (n : Int) : (be (low k n) : Int) = n % 2 ^ (8 * k) := by
  induction k with
  | zero => simp [low, be]
  | succ k ih =>
    have hp : (2 : Int) ^ (8 * (k + 1)) = 2 ^ (8 * k) * 256 := by rw [show 8 * (k + 1) = 8 * k + 8 by omega, Int.pow_add]; rfl
    have hpos : (0 : Int) < 2 ^ (8 * k) := Int.pow_pos (by decide)
    rw [low, be_cons, low_len, hp, Int.natCast_add, Int.natCast_mul, ih, Int.toNat_of_nonneg (by omega), div_mod n _ hpos]
    have h1 := Int.emod_emod_of_dvd n (Int.dvd_mul_right (2 ^ (8 * k)) 256)
    rw [← h1]
    have h2 := Int.emod_add_mul_ediv (n % (2 ^ (8 * k) * 256)) (2 ^ (8 * k))
    have h3 : ((256 ^ k : Nat) : Int) = 2 ^ (8 * k) := by
      rw [Int.natCast_pow, Int.pow_mul]; rfl
    rw [h3, Int.mul_comm (n % (2 ^ (8 * k) * 256) / 2 ^ (8 * k))]
    omega
theorem val_mid (A M R : List Nat) : val (A ++ (M ++ R)) A.length M.length = be M := by unfold val; simp
theorem and_mask (n : Int) (k : Nat) (hk : k ≤ 7) : bits .and .i64 n (2 ^ (8 * k) - 1) = n % 2 ^ (8 * k) := by
  have h0 : k = 0 ∨ k = 1 ∨ k = 2 ∨ k = 3 ∨ k = 4 ∨ k = 5 ∨ k = 6 ∨ k = 7 := by omega
  show IntKind.i64.wrap ((BitVec.ofInt 64 n &&& BitVec.ofInt 64 (2 ^ (8 * k) - 1)).toNat : Int) = _
  have h1 : ((2 : Int) ^ (8 * k) - 1) = ((2 ^ (8 * k) - 1 : Nat) : Int) := by
    rcases h0 with rfl | rfl | rfl | rfl | rfl | rfl | rfl | rfl <;> rfl
  have h2 : 2 ^ (8 * k) - 1 < 18446744073709551616 := by
    rcases h0 with rfl | rfl | rfl | rfl | rfl | rfl | rfl | rfl <;> decide
  rw [h1, BitVec.toNat_and, ofInt_u64 _ h2, Nat.and_two_pow_sub_one_eq_mod, BitVec.toNat_ofInt, IntKind.wrap_i64]
  rcases h0 with rfl | rfl | rfl | rfl | rfl | rfl | rfl | rfl <;> omega
end Go.Proofs.Ytmffgdgnaafbpaa.Bk
