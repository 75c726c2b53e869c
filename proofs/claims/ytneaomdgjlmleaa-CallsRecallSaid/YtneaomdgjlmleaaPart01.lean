/- 22 texts in one file, in build order. -/
import Derived.Laws.BitsLemmas
import Derived.Deep.MidRow
import Derived.Below
import Derived.Test.YtneaomdgjlmleaaRows
import Derived.OwnWalk
import Derived.WalkKit
import Derived.ProofKit
import Derived.IntWalk
import Derived.Lib.Hide
import Derived.LoopTactic
import Derived.BigQuiet
import Derived.Deep.QuietTactic
import Ieee.Arith
import Derived.Laws.FloatBits
import Derived.Laws.FloatArith
import Derived.WalkLawsBesides
import Derived.Still
import Derived.StillTail
import Derived.Deep.WholeRow
import Derived.BigFrame
import Derived.Laws.StructEq
import Derived.Laws.CopyRow
import Derived.Deep.Cut
import Derived.Laws.CopyOwn
set_option linter.unusedVariables false
set_option linter.unusedSimpArgs false
set_option linter.unusedSectionVars false
set_option maxHeartbeats 8000000
set_option maxRecDepth 100000
namespace Go.Proofs.Ytneaomdgjlmleaa
namespace SetM
/-- The lowest eight bits. -/
def low (s : Int) : Nat := (s % 256).toNat
theorem low_lt (s : Int) : low s < 256 := by unfold low; omega
theorem low_nat (m : Nat) (h : m < 256) : low (m : Int) = m := by unfold low; omega
/-- Is p a phase of s? -/
def has (s p : Int) : Bool := decide (0 ≤ p) && (low s).testBit p.toNat
/-- The set of p alone: empty if p is not a phase. -/
def bit (p : Int) : Nat := if 0 ≤ p ∧ p < 8 then 2 ^ p.toNat else 0
def withN (s p : Int) : Nat := low s ||| bit p
theorem toNat_low (s : Int) : (BitVec.ofInt 64 s).toNat % 256 = low s := by
  rw [BitVec.toNat_ofInt]
  unfold low
  show (s % ((18446744073709551616 : Nat) : Int)).toNat % 256 = _
  omega
theorem toNat_ofNat (b : Nat) (h : b < 256) : (BitVec.ofInt 64 (b : Int)).toNat = b := by
  rw [BitVec.toNat_ofInt]
  show ((b : Int) % ((18446744073709551616 : Nat) : Int)).toNat = _
  omega
theorem low_wrap (n : Nat) : low (IntKind.i64.wrap (n : Int)) = n % 256 := by
  rw [IntKind.wrap_i64]; unfold low; omega
theorem wrap_small (n : Nat) (h : n < 256) : IntKind.i64.wrap (n : Int) = n := by
  rw [IntKind.wrap_i64]; omega
theorem and_low (s : Int) (b : Nat) (h : b < 256) : bits .and .i64 s (b : Int) = ((low s &&& b : Nat) : Int) := by
  show IntKind.i64.wrap ((BitVec.ofInt 64 s &&& BitVec.ofInt 64 (b : Int)).toNat : Nat) = _
  rw [BitVec.toNat_and, toNat_ofNat b h]
  have h1 : (BitVec.ofInt 64 s).toNat &&& b < 256 := Nat.and_lt_two_pow (n := 8) _ h
  have h2 : ((BitVec.ofInt 64 s).toNat &&& b) % 2 ^ 8 = _ := Nat.and_mod_two_pow
  rw [wrap_small _ h1, ← toNat_low s]
  rw [Nat.mod_eq_of_lt h1, Nat.mod_eq_of_lt (show b < 2 ^ 8 from h)] at h2
  rw [h2]
theorem and_255 (s : Int) : bits .and .i64 s 255 = (low s : Int) := by
  have := and_low s 255 (by decide)
  have h2 : low s &&& 255 = low s := by
    have h3 := Nat.and_two_pow_sub_one_eq_mod (low s) 8
    have h4 := low_lt s
    rw [show (2 ^ 8 - 1 : Nat) = 255 from rfl] at h3
    rw [h3]; omega
  rw [h2] at this
  exact this
theorem or_low (s : Int) (b : Nat) (h : b < 256) : low (bits .or .i64 s (b : Int)) = low s ||| b := by
  show low (IntKind.i64.wrap ((BitVec.ofInt 64 s ||| BitVec.ofInt 64 (b : Int)).toNat : Nat)) = _
  rw [low_wrap, BitVec.toNat_or, toNat_ofNat b h, ← toNat_low s]
  have h2 : ((BitVec.ofInt 64 s).toNat ||| b) % 2 ^ 8 = _ := Nat.or_mod_two_pow
  rw [Nat.mod_eq_of_lt (show b < 2 ^ 8 from h)] at h2
  exact h2
theorem bit_lt (p : Int) : bit p < 256 := by
  unfold bit
  split
  · rename_i h
    have : 2 ^ p.toNat ≤ 2 ^ 7 := Nat.pow_le_pow_right (by decide) (by omega)
    omega
  · decide
theorem bit_out {p : Int} (h : ¬ (0 ≤ p ∧ p < 8)) : bit p = 0 := by unfold bit; rw [if_neg h]
theorem bit_in (k : Nat) (h : k < 8) : bit (k : Int) = 2 ^ k := by unfold bit; rw [if_pos ⟨by omega, by omega⟩]; simp
theorem with_bits (s p : Int) : bits .and .i64 (bits .or .i64 s (bit p)) 255 = (withN s p : Int) := by
  rw [and_255, or_low s _ (bit_lt p)]; rfl
theorem test_high (m k : Nat) (h : m < 256) (hk : 8 ≤ k) : m.testBit k = false :=
  Nat.testBit_lt_two_pow (Nat.lt_of_lt_of_le h (Nat.pow_le_pow_right (n := 2) (by decide) hk : 2 ^ 8 ≤ 2 ^ k))
theorem test_bit (p : Int) (k : Nat) : (bit p).testBit k = decide ((k : Int) = p ∧ k < 8) := by
  unfold bit
  split
  · rename_i h
    rw [Nat.testBit_two_pow]
    rw [Bool.eq_iff_iff, decide_eq_true_iff, decide_eq_true_iff]
    omega
  · rename_i h
    rw [Nat.zero_testBit]
    symm
    rw [decide_eq_false_iff_not]
    omega
theorem has_neg (s p : Int) (h : p < 0) : has s p = false := by unfold has; rw [decide_eq_false (by omega)]; rfl
theorem has_big (s p : Int) (h : 8 ≤ p) : has s p = false := by
  unfold has; rw [test_high _ _ (low_lt s) (by omega), Bool.and_false]
theorem has_nat (s : Int) (k : Nat) : has s k = (low s).testBit k := by unfold has; simp
theorem has_and (s p : Int) : (bits .and .i64 s (bit p) = 0) ↔ has s p = false := by
  rw [and_low s _ (bit_lt p)]
  by_cases h : 0 ≤ p ∧ p < 8
  · obtain ⟨k, rfl⟩ := Int.eq_ofNat_of_zero_le h.1
    rw [bit_in k (by omega), has_nat]
    cases hb : (low s).testBit k
    · have h2 : low s &&& 2 ^ k = 0 := by
        apply Nat.eq_of_testBit_eq
        intro j
        rw [Nat.testBit_and, Nat.testBit_two_pow, Nat.zero_testBit]
        by_cases e : k = j
        · rw [← e, hb]; rfl
        · rw [decide_eq_false e, Bool.and_false]
      rw [h2]; simp
    · have h2 : low s &&& 2 ^ k ≠ 0 := by
        intro h3
        have h4 := congrArg (fun n => n.testBit k) h3
        simp only [Nat.testBit_and, Nat.testBit_two_pow, Nat.zero_testBit, hb] at h4
        simp at h4
      simp; omega
  · rw [bit_out h, Nat.and_zero]
    have h2 : has s p = false := by
      by_cases h3 : p < 0
      · exact has_neg s p h3
      · exact has_big s p (by omega)
    simp [h2]
/-- The document's own way to ask it. -/
theorem has_shr (s : Int) (k : Nat) (h : k < 8) : bits .and .i64 (s / 2 ^ k) 1 = if has s k then 1 else 0 := by
  have h1 := and_low (s / 2 ^ k) 1 (by decide)
  have h2 : low (s / 2 ^ k) &&& 1 = low s / 2 ^ k % 2 := by
    rw [Nat.and_one_is_mod]
    have h3 : k = 0 ∨ k = 1 ∨ k = 2 ∨ k = 3 ∨ k = 4 ∨ k = 5 ∨ k = 6 ∨ k = 7 := by omega
    unfold low
    rcases h3 with rfl | rfl | rfl | rfl | rfl | rfl | rfl | rfl
    all_goals (simp only [Nat.reducePow, Int.reducePow]; omega)
  rw [h2] at h1
  rw [has_nat, Nat.testBit_eq_decide_div_mod_eq]
  rw [show ((1 : Nat) : Int) = 1 from rfl] at h1
  rw [h1]
  have h4 : low s / 2 ^ k % 2 < 2 := Nat.mod_lt _ (by decide)
  split <;> rename_i h5
  · rw [of_decide_eq_true h5]; rfl
  · have : low s / 2 ^ k % 2 = 0 := by simp at h5; omega
    rw [this]; rfl
/-- The phases below k. -/
def upto (s : Int) (k : Nat) : List Int := ((List.range k).filter fun j => (low s).testBit j).map Int.ofNat
def list (s : Int) : List Int := upto s 8
theorem upto_zero (s : Int) : upto s 0 = [] := rfl
theorem upto_hit (s : Int) (k : Nat) (h : has s k = true) : upto s (k + 1) = upto s k ++ [(k : Int)] := by
  rw [has_nat] at h
  unfold upto; rw [List.range_succ, List.filter_append, List.map_append]; simp [h]
theorem upto_miss (s : Int) (k : Nat) (h : has s k = false) : upto s (k + 1) = upto s k := by
  rw [has_nat] at h
  unfold upto; rw [List.range_succ, List.filter_append, List.map_append]; simp [h]
theorem upto_len (s : Int) (k : Nat) : (upto s k).length ≤ k := by
  unfold upto; rw [List.length_map]; have := List.length_filter_le (fun j => (low s).testBit j) (List.range k); simpa using this
theorem list_len (s : Int) : (list s).length ≤ 8 := upto_len s 8
theorem mem_list (s p : Int) : p ∈ list s ↔ has s p = true := by
  unfold list upto
  rw [List.mem_map]
  constructor
  · rintro ⟨j, hj, rfl⟩
    rw [List.mem_filter] at hj
    rw [show Int.ofNat j = (j : Int) from rfl, has_nat]; exact hj.2
  · intro h
    have h0 : 0 ≤ p := by
      by_cases h1 : 0 ≤ p
      · exact h1
      · rw [has_neg s p (by omega)] at h; cases h
    have h8 : p < 8 := by
      by_cases h1 : p < 8
      · exact h1
      · rw [has_big s p (by omega)] at h; cases h
    obtain ⟨k, rfl⟩ := Int.eq_ofNat_of_zero_le h0
    rw [has_nat] at h
    have h9 : k < 8 := by omega
    exact ⟨k, List.mem_filter.2 ⟨List.mem_range.2 h9, h⟩, rfl⟩
theorem list_bd (s p : Int) (h : p ∈ list s) : 0 ≤ p ∧ p < 8 := by
  unfold list upto at h
  obtain ⟨j, hj, rfl⟩ := List.mem_map.1 h
  have := List.mem_range.1 (List.mem_filter.1 hj).1
  rw [show Int.ofNat j = (j : Int) from rfl]
  omega
/-- The set of a list. -/
def of (l : List Int) : Nat := l.foldl (fun m p => m ||| bit p) 0
theorem of_snoc (l : List Int) (p : Int) : of (l ++ [p]) = of l ||| bit p := by unfold of; rw [List.foldl_append]; rfl
theorem fold_lt (l : List Int) (m : Nat) (h : m < 256) : l.foldl (fun m p => m ||| bit p) m < 256 := by
  induction l generalizing m with
  | nil => exact h
  | cons p l ih => exact ih _ (Nat.or_lt_two_pow (n := 8) h (bit_lt p))
theorem of_lt (l : List Int) : of l < 256 := fold_lt l 0 (by decide)
theorem with_of (l : List Int) (p : Int) : withN (of l : Nat) p = of (l ++ [p]) := by
  rw [of_snoc]; unfold withN; rw [low_nat _ (of_lt l)]
theorem fold_test (l : List Int) (m k : Nat) : (l.foldl (fun m p => m ||| bit p) m).testBit k = (m.testBit k || decide ((k : Int) ∈ l ∧ k < 8)) := by
  induction l generalizing m with
  | nil => simp
  | cons p l ih =>
    rw [List.foldl_cons, ih, Nat.testBit_or, test_bit, Bool.or_assoc]
    congr 1
    rw [Bool.eq_iff_iff, Bool.or_eq_true, decide_eq_true_iff, decide_eq_true_iff, decide_eq_true_iff, List.mem_cons]
    constructor
    · rintro (⟨a, b⟩ | ⟨a, b⟩)
      · exact ⟨.inl a, b⟩
      · exact ⟨.inr a, b⟩
    · rintro ⟨a | a, b⟩
      · exact .inl ⟨a, b⟩
      · exact .inr ⟨a, b⟩
theorem of_test (l : List Int) (k : Nat) : (of l).testBit k = decide ((k : Int) ∈ l ∧ k < 8) := by
  unfold of; rw [fold_test, Nat.zero_testBit, Bool.false_or]
theorem eq_of {m m' : Nat} (h : m < 256) (h' : m' < 256) (e : ∀ k, k < 8 → m.testBit k = m'.testBit k) : m = m' := by
  apply Nat.eq_of_testBit_eq
  intro k
  by_cases hk : k < 8
  · exact e k hk
  · rw [test_high m k h (by omega), test_high m' k h' (by omega)]
/-- The document's own way to make it: phase by phase. -/
def refOf (l : List Int) : Nat → Nat
  | 0 => 0
  | k + 1 => if (k : Int) ∈ l then refOf l k ||| 2 ^ k else refOf l k
theorem refOf_hit (l : List Int) (k : Nat) (h : (k : Int) ∈ l) : refOf l (k + 1) = refOf l k ||| 2 ^ k := by rw [refOf, if_pos h]
theorem refOf_miss (l : List Int) (k : Nat) (h : ¬ (k : Int) ∈ l) : refOf l (k + 1) = refOf l k := by rw [refOf, if_neg h]
theorem refOf_lt (l : List Int) (k : Nat) : refOf l k < 2 ^ k := by
  induction k with
  | zero => exact Nat.one_pos
  | succ k ih =>
    have h1 : refOf l k < 2 ^ (k + 1) := Nat.lt_of_lt_of_le ih (Nat.pow_le_pow_right (by decide) (by omega))
    rw [refOf]
    split
    · exact Nat.or_lt_two_pow h1 (Nat.pow_lt_pow_right (by decide) (by omega))
    · exact h1
theorem refOf_test (l : List Int) (k j : Nat) : (refOf l k).testBit j = decide (j < k ∧ (j : Int) ∈ l) := by
  induction k with
  | zero => simp [refOf]
  | succ k ih =>
    by_cases h : (k : Int) ∈ l
    · rw [refOf_hit l k h, Nat.testBit_or, ih, Nat.testBit_two_pow, Bool.eq_iff_iff, Bool.or_eq_true, decide_eq_true_iff, decide_eq_true_iff, decide_eq_true_iff]
      constructor
      · rintro (⟨a, b⟩ | rfl)
        · exact ⟨by omega, b⟩
        · exact ⟨by omega, h⟩
      · rintro ⟨a, b⟩
        by_cases e : k = j
        · exact .inr e
        · exact .inl ⟨by omega, b⟩
    · rw [refOf_miss l k h, ih, Bool.eq_iff_iff, decide_eq_true_iff, decide_eq_true_iff]
      constructor
      · rintro ⟨a, b⟩
        exact ⟨by omega, b⟩
      · rintro ⟨a, b⟩
        have : j ≠ k := by rintro rfl; exact h b
        exact ⟨by omega, b⟩
theorem refOf_eq (l : List Int) : refOf l 8 = of l := by
  refine eq_of (refOf_lt l 8) (of_lt l) fun k hk => ?_
  rw [refOf_test, of_test, Bool.eq_iff_iff, decide_eq_true_iff, decide_eq_true_iff, and_comm]
theorem list_test (s : Int) (k : Nat) (hk : k < 8) : decide ((k : Int) ∈ list s ∧ k < 8) = (low s).testBit k := by
  rw [Bool.eq_iff_iff, decide_eq_true_iff, mem_list, has_nat]
  exact ⟨fun h => h.1, fun h => ⟨h, hk⟩⟩
theorem of_list (s : Int) : of (list s) = low s := by
  refine eq_of (of_lt _) (low_lt s) fun k hk => ?_
  rw [of_test, list_test s k hk]
theorem of_with (s p : Int) : of (list s ++ [p]) = withN s p := by
  rw [of_snoc, of_list]; rfl
def first (s : Int) : Int := (list s).headD (-1)
end SetM
namespace Tab
open Go Go.RowKit
abbrev I (n : Int) : Value := .int .i64 n
abbrev F (n : Nat) : Value := .float .f64 n
structure Ph where
  on : Bool
  min : Int
  gap : Int
  max : Int
  top : Int
  step : Int
  yellow : Int
  red : Int
  walk : Int
  blinks : Int
  recall : Int
  lock : Bool
  rest : Bool
  deriving DecidableEq, Inhabited
structure Det where
  phase : Int
  on : Nat
  off : Nat
  delay : Nat
  extend : Nat
  maxOn : Int
  maxOff : Int
  deriving DecidableEq, Inhabited
structure Rl where
  bars : Int
  clear : Int
  dwell : Int
  exit : Int
  delay : Int
  green : Int
  foot : Int
  hold : Int
  stay : Int
  most : Int
  limit : Int
  deriving DecidableEq, Inhabited
structure Bs where
  set : Int
  lock : Int
  deriving DecidableEq, Inhabited
structure Tab where
  phases : List Ph
  groups : List (List Int × List Int)
  conflict : List Int
  dets : List Det
  rails : List Rl
  buses : List Bs
  extend : Int
  budget : Int
  start : Int
  revert : Int
  least : Int
  flash : List Int
  window : Int
  share : Int
  deriving DecidableEq, Inhabited
def Ph.cells (p : Ph) : List Value := [.bool p.on, I p.min, I p.gap, I p.max, I p.top, I p.step, I p.yellow, I p.red, I p.walk, I p.blinks, I p.recall, .bool p.lock, .bool p.rest]
def Det.cells (d : Det) : List Value := [I d.phase, F d.on, F d.off, F d.delay, F d.extend, I d.maxOn, I d.maxOff]
def Rl.cells (r : Rl) : List Value := [I r.bars, I r.clear, I r.dwell, I r.exit, I r.delay, I r.green, I r.foot, I r.hold, I r.stay, I r.most, I r.limit]
def Bs.cells (b : Bs) : List Value := [I b.set, I b.lock]
/-- Where a slice lies, and its capacity. -/
structure Sl where
  a : Option Addr
  cap : Nat
abbrev Sl.val (s : Sl) (n : Nat) : Value := .slice s.a n s.cap
def Lies (w : World) (x : Addr) (cs : List Value) : Prop := ∀ j v, cs[j]? = some v → w.cell? (x.add j) = some v
/-- Under a slice lie the elements l, each of n cells. -/
def RowOf {α : Type} (n : Nat) (enc : α → List Value) (w : World) (s : Sl) (l : List α) : Prop :=
  (s.a = none ∧ s.cap = 0 ∧ l = []) ∨ ∃ x, s.a = some x ∧ l.length ≤ s.cap ∧ s.cap ≤ maxLen ∧ ∀ i v, l[i]? = some v → Lies w (x.add (i * n)) (enc v)
abbrev IntRow (w : World) (s : Sl) (l : List Int) : Prop := RowOf 1 (fun n => [I n]) w s l
theorem add_zero (x : Addr) : x.add 0 = x := by cases x; simp [Addr.add]
theorem add_one (y : Addr) : y.add 1 = ⟨y.block, y.off + 1, none⟩ := by simp [Addr.add]
theorem add_two (x : Addr) (p i : Nat) : (x.add p).add i = x.add (p + i) := by
  unfold Addr.add
  by_cases hp : p = 0
  · subst hp; simp
  · by_cases hi : i = 0
    · subst hi; simp
    · simp [hp, hi, show ¬ (p + i = 0) by omega, Nat.add_assoc]
theorem Lies.below {w w' : World} {x : Addr} {cs : List Value} (h : Lies w x cs) (hb : Below w.heap.size w w') : Lies w' x cs := fun j v hv =>
  (hb.cell (World.block_lt_of_cell? w _ (h j v hv))).trans (h j v hv)
section
variable {α : Type} {n : Nat} {enc : α → List Value} {w w' : World} {s : Sl} {l : List α}
theorem RowOf.below (h : RowOf n enc w s l) (hb : Below w.heap.size w w') : RowOf n enc w' s l := by
  rcases h with h | ⟨x, h1, h2, h3, h4⟩
  · exact .inl h
  · exact .inr ⟨x, h1, h2, h3, fun i v hv => (h4 i v hv).below hb⟩
theorem RowOf.len (h : RowOf n enc w s l) : l.length ≤ s.cap ∧ s.cap ≤ maxLen := by
  rcases h with ⟨_, h1, rfl⟩ | ⟨x, h1, h2, h3, h4⟩
  · rw [h1]; exact ⟨Nat.le_refl _, Nat.zero_le _⟩
  · exact ⟨h2, h3⟩
theorem RowOf.at (h : RowOf n enc w s l) {i : Nat} {v : α} (hv : l[i]? = some v) : ∃ x, s.a = some x ∧ Lies w (x.add (i * n)) (enc v) := by
  rcases h with ⟨_, _, rfl⟩ | ⟨x, h1, h2, h3, h4⟩
  · simp at hv
  · exact ⟨x, h1, h4 i v hv⟩
theorem RowOf.nil (w : World) : RowOf n enc w ⟨none, 0⟩ [] := .inl ⟨rfl, rfl, rfl⟩
theorem IntRow.at {s : Sl} {l : List Int} (h : IntRow w s l) {i : Nat} {v : Int} (hv : l[i]? = some v) : ∃ x, s.a = some x ∧ w.cell? (x.add i) = some (I v) := by
  obtain ⟨x, hx, hl⟩ := RowOf.at h hv
  have := hl 0 _ rfl
  rw [Nat.mul_one, add_two, Nat.add_zero] at this
  exact ⟨x, hx, this⟩
end
/-- A group's rows, and where they lie. -/
structure Gr where
  r0 : List Int
  r1 : List Int
  s0 : Sl
  s1 : Sl
def Gr.cells (g : Gr) : List Value := [g.s0.val g.r0.length, g.s1.val g.r1.length]
def Gr.ok (w : World) (g : Gr) : Prop := IntRow w g.s0 g.r0 ∧ IntRow w g.s1 g.r1
def Gr.data (g : Gr) : List Int × List Int := (g.r0, g.r1)
def GroupsLie (w : World) (s : Sl) (gs : List Gr) : Prop := RowOf 2 Gr.cells w s gs ∧ ∀ g ∈ gs, g.ok w
theorem Gr.ok.below {w w' : World} {g : Gr} (h : g.ok w) (hb : Below w.heap.size w w') : g.ok w' := ⟨h.1.below hb, h.2.below hb⟩
theorem GroupsLie.below {w w' : World} {s : Sl} {gs : List Gr} (h : GroupsLie w s gs) (hb : Below w.heap.size w w') : GroupsLie w' s gs := ⟨h.1.below hb, fun g hg => (h.2 g hg).below hb⟩
theorem Ph.one (p : Ph) : p.cells.toArray.all (·.oneCell') = true := by simp [Ph.cells, Value.oneCell']
theorem Det.one (d : Det) : d.cells.toArray.all (·.oneCell') = true := by simp [Det.cells, Value.oneCell']
theorem Rl.one (r : Rl) : r.cells.toArray.all (·.oneCell') = true := by simp [Rl.cells, Value.oneCell']
theorem Bs.one (b : Bs) : b.cells.toArray.all (·.oneCell') = true := by simp [Bs.cells, Value.oneCell']
theorem Gr.one (g : Gr) : g.cells.toArray.all (·.oneCell') = true := by simp [Gr.cells, Value.oneCell']
/-- Where a table's four lists lie. -/
structure Hd where
  g : Sl
  d : Sl
  r : Sl
  b : Sl
def Tab.cells (T : Tab) (h : Hd) : List Value :=
  T.phases.flatMap Ph.cells ++ (h.g.val T.groups.length :: (T.conflict.map I ++ (h.d.val T.dets.length :: h.r.val T.rails.length :: h.b.val T.buses.length :: I T.extend :: I T.budget :: I T.start :: I T.revert :: I T.least ::
    (T.flash.map I ++ [I T.window, I T.share]))))
/-- A table's lists lie in memory as it says. -/
structure IsTab (w : World) (h : Hd) (T : Tab) : Prop where
  ph : T.phases.length = 8
  cf : T.conflict.length = 8
  fl : T.flash.length = 8
  groups : ∃ gs : List Gr, gs.map Gr.data = T.groups ∧ GroupsLie w h.g gs
  dets : RowOf 7 Det.cells w h.d T.dets
  rails : RowOf 11 Rl.cells w h.r T.rails
  buses : RowOf 2 Bs.cells w h.b T.buses
theorem IsTab.below {w w' : World} {h : Hd} {T : Tab} (k : IsTab w h T) (hb : Below w.heap.size w w') : IsTab w' h T :=
  ⟨k.ph, k.cf, k.fl, let ⟨gs, h1, h2⟩ := k.groups; ⟨gs, h1, h2.below hb⟩, k.dets.below hb, k.rails.below hb, k.buses.below hb⟩
theorem eight {α : Type} {l : List α} (h : l.length = 8) : ∃ a0 a1 a2 a3 a4 a5 a6 a7, l = [a0, a1, a2, a3, a4, a5, a6, a7] := by
  match l, h with
  | [a0, a1, a2, a3, a4, a5, a6, a7], _ => exact ⟨a0, a1, a2, a3, a4, a5, a6, a7, rfl⟩
/-- What stands where in a table's cells. -/
structure CellsOk (T : Tab) (h : Hd) (cs : Array Value) : Prop where
  size : cs.size = 131
  one : cs.all (·.oneCell') = true
  g : cs[104]? = some (h.g.val T.groups.length)
  d : cs[113]? = some (h.d.val T.dets.length)
  r : cs[114]? = some (h.r.val T.rails.length)
  b : cs[115]? = some (h.b.val T.buses.length)
  extend : cs[116]? = some (I T.extend)
  budget : cs[117]? = some (I T.budget)
  start : cs[118]? = some (I T.start)
  revert : cs[119]? = some (I T.revert)
  least : cs[120]? = some (I T.least)
  window : cs[129]? = some (I T.window)
  share : cs[130]? = some (I T.share)
  phases : cs.toList.take 104 = T.phases.flatMap Ph.cells
  conflict : (cs.toList.drop 105).take 8 = T.conflict.map I
  flash : (cs.toList.drop 121).take 8 = T.flash.map I
  phase : ∀ i p, T.phases[i]? = some p → (cs.toList.drop (13 * i)).take 13 = p.cells
theorem cells_ok {w : World} {h : Hd} {T : Tab} (k : IsTab w h T) : CellsOk T h (T.cells h).toArray := by
  obtain ⟨p0, p1, p2, p3, p4, p5, p6, p7, hp⟩ := eight k.ph
  obtain ⟨c0, c1, c2, c3, c4, c5, c6, c7, hc⟩ := eight k.cf
  obtain ⟨f0, f1, f2, f3, f4, f5, f6, f7, hf⟩ := eight k.fl
  clear k
  obtain ⟨phases, groups, conflict, dets, rails, buses, extend, budget, start, revert, least, flash, window, share⟩ := T
  simp only at hp hc hf
  subst hp hc hf
  constructor
  all_goals try rfl
  case one => simp [Tab.cells, Ph.cells, Value.oneCell']
  intro i p hp
  match i, hp with
  | 0, hp | 1, hp | 2, hp | 3, hp | 4, hp | 5, hp | 6, hp | 7, hp => 
    obtain rfl := Option.some.inj hp
    rfl
  | i + 8, hp => cases hp
/-- A block's part, out of what is known of its cells. -/
theorem range_of {w : World} {b : Nat} {C : Array Value} {t : TypeId} {fr : Nat × Nat} (hb : w.heap[b]? = some (.cells C t fr)) (o n : Nat) (cs : List Value) (h : (C.toList.drop o).take n = cs) : w.rangeAt b o cs := by
  subst h
  have h1 := World.rangeAt_of_block hb o n
  rwa [Array.toList_extract, List.extract, Nat.add_sub_cancel_left] at h1
end Tab
namespace RefS
open Go.ChangeShapes Go.WideShapes Go.ChangeAt Go.RowKit
open Go.Proofs.Ytneaomdgjlmleaa
theorem ret_int {k : IntKind} {a b : Int} (h : a = b) : Ending.returned (.int k a) = .returned (.int k b) := by rw [h]
theorem ret_bool {a b : Bool} (h : a = b) : Ending.returned (.bool a) = .returned (.bool b) := by rw [h]
theorem eight {p : Int} (h : 0 ≤ p) (h' : p < 8) : p = 0 ∨ p = 1 ∨ p = 2 ∨ p = 3 ∨ p = 4 ∨ p = 5 ∨ p = 6 ∨ p = 7 := by omega
theorem shr_has (s : Int) (k : Nat) (h : k < 8) : (bits .and .i64 (s / 2 ^ k) 1 == 1) = SetM.has s k := by
  rw [SetM.has_shr s k h]
  cases SetM.has s k <;> rfl
theorem rhas_any (s p : Int) (w : World) : Calls Try.prog 22 #[.int .i64 s, .int .i64 p] w fun e w' => e = .returned (.bool (SetM.has s p)) ∧ w = w' := by
  by_cases h1 : p < 0
  · have HB := Lib.hid (SetM.has_neg s p h1)
    go_enter Try.func22, Try.ntmps22
    go_wp2
    go_ret
    exact ⟨ret_bool HB.out.symm, rfl⟩
  by_cases h2 : 8 ≤ p
  · have HB := Lib.hid (SetM.has_big s p h2)
    go_enter Try.func22, Try.ntmps22
    go_wp2
    go_ret
    exact ⟨ret_bool HB.out.symm, rfl⟩
  rcases eight (p := p) (by omega) (by omega) with rfl | rfl | rfl | rfl | rfl | rfl | rfl | rfl
  · have HB := Lib.hid (show (bits .and .i64 s 1 == 1) = SetM.has s 0 from by have := shr_has s 0 (by decide); simpa using this)
    clear h1 h2
    go_enter Try.func22, Try.ntmps22
    go_wp2
    go_ret
    exact ⟨ret_bool HB.out, rfl⟩
  · have HB := Lib.hid (show (bits .and .i64 (s / 2) 1 == 1) = SetM.has s 1 from shr_has s 1 (by decide))
    clear h1 h2
    go_enter Try.func22, Try.ntmps22
    go_wp2
    go_ret
    exact ⟨ret_bool HB.out, rfl⟩
  · have HB := Lib.hid (show (bits .and .i64 (s / 4) 1 == 1) = SetM.has s 2 from shr_has s 2 (by decide))
    clear h1 h2
    go_enter Try.func22, Try.ntmps22
    go_wp2
    go_ret
    exact ⟨ret_bool HB.out, rfl⟩
  · have HB := Lib.hid (show (bits .and .i64 (s / 8) 1 == 1) = SetM.has s 3 from shr_has s 3 (by decide))
    clear h1 h2
    go_enter Try.func22, Try.ntmps22
    go_wp2
    go_ret
    exact ⟨ret_bool HB.out, rfl⟩
  · have HB := Lib.hid (show (bits .and .i64 (s / 16) 1 == 1) = SetM.has s 4 from shr_has s 4 (by decide))
    clear h1 h2
    go_enter Try.func22, Try.ntmps22
    go_wp2
    go_ret
    exact ⟨ret_bool HB.out, rfl⟩
  · have HB := Lib.hid (show (bits .and .i64 (s / 32) 1 == 1) = SetM.has s 5 from shr_has s 5 (by decide))
    clear h1 h2
    go_enter Try.func22, Try.ntmps22
    go_wp2
    go_ret
    exact ⟨ret_bool HB.out, rfl⟩
  · have HB := Lib.hid (show (bits .and .i64 (s / 64) 1 == 1) = SetM.has s 6 from shr_has s 6 (by decide))
    clear h1 h2
    go_enter Try.func22, Try.ntmps22
    go_wp2
    go_ret
    exact ⟨ret_bool HB.out, rfl⟩
  · have HB := Lib.hid (show (bits .and .i64 (s / 128) 1 == 1) = SetM.has s 7 from shr_has s 7 (by decide))
    clear h1 h2
    go_enter Try.func22, Try.ntmps22
    go_wp2
    go_ret
    exact ⟨ret_bool HB.out, rfl⟩
theorem info3 : (Try.prog.info? 3).map (fun i => (i.zero, i.size, i.bytes)) = some (some (.int .i64 0), 1, 8) := by kernel_rfl
/-- A slice of its own memory (laid since B) that holds the integers l; nil just where there are none. -/
def Owns (B : Nat) (W : World) (v : Value) (l : List Int) : Prop := W.ownsRow B 3 1 v l.length (l.map (Value.int .i64)) ∧ (v = .slice none 0 0 ↔ l = [])
/-- What a function hands back that gathers integers. -/
def Gave (w : World) (l : List Int) (e : Ending) (W' : World) : Prop := ∃ v, e = .returned v ∧ Owns w.heap.size W' v l ∧ Below w.heap.size w W'
theorem row_blk {W : World} {n₀ e size k : Nat} {v : Value} {xs : List Value} (h : W.ownsRow n₀ e size v k xs) (j : Nat) (hj : v.ownBlock = some j) : n₀ ≤ j := by
  rcases h.2 with ⟨rfl, _⟩ | ⟨g, cap, cur, rfl, hb, _, _⟩
  · simp [Value.ownBlock] at hj
  · obtain rfl : g = j := by simpa [Value.ownBlock] using hj
    exact hb
theorem map_snoc (pre : List Int) (x : Int) : pre.map (Value.int .i64) ++ [.int .i64 x] = (pre ++ [x]).map (Value.int .i64) := by simp
theorem add_zero (x : Addr) : x.add 0 = x := by cases x; simp [Addr.add]
/-- A slice's address under which the integers l lie. -/
def Row (w : World) (a : Option Addr) (l : List Int) : Prop := l.length ≤ maxLen ∧ (l = [] ∨ ∃ x, a = some x ∧ ∀ i, i < l.length → w.cell? (x.add i) = some (.int .i64 (l.getD i 0)))
theorem Row.cells {w : World} {a : Option Addr} {l : List Int} (h : Row w a l) {k : Nat} (hk : k < l.length) : ∃ x, a = some x ∧ ∀ i, i < l.length → w.cell? (x.add i) = some (.int .i64 (l.getD i 0)) := by
  rcases h.2 with rfl | h
  · simp at hk
  · exact h
theorem Row.below {w w' : World} {a : Option Addr} {l : List Int} (h : Row w a l) (hb : Below w.heap.size w w') : Row w' a l := by
  refine ⟨h.1, ?_⟩
  rcases h.2 with h | ⟨x, hx, hc⟩
  · exact .inl h
  · exact .inr ⟨x, hx, fun i hi => (hb.cell (World.block_lt_of_cell? w _ (hc i hi))).trans (hc i hi)⟩
/-- What a function has gathered reads as a row. -/
theorem row_of {B : Nat} {w : World} {v : Value} {l : List Int} (h : Owns B w v l) : ∃ a cap, v = .slice a l.length cap ∧ Row w a l := by
  rcases h.1.2 with ⟨rfl, h0⟩ | ⟨g, cap, cur, rfl, h1, h2, h3, h4, h5, h6⟩
  · have : l = [] := h.2.1 rfl
    subst this
    exact ⟨none, 0, rfl, Nat.zero_le _, .inl rfl⟩
  · refine ⟨_, cap, rfl, by omega, .inr ⟨_, rfl, fun i hi => ?_⟩⟩
    exact h.1.cells (g := g) rfl i (.int .i64 (l.getD i 0)) (by rw [List.getElem?_map, List.getD_eq_getElem?_getD, List.getElem?_eq_getElem hi]; rfl)
theorem take_succ (l : List Int) (k : Nat) (h : k < l.length) : l.take (k + 1) = l.take k ++ [l.getD k 0] := by
  rw [List.take_succ_eq_append_getElem h, List.getD_eq_getElem?_getD, List.getElem?_eq_getElem h]; rfl
theorem or_small (m b : Nat) (hm : m < 256) (hb : b < 256) : bits .or .i64 (m : Int) (b : Int) = ((m ||| b : Nat) : Int) :=
  (bits_nat .i64 8 (by decide) (fun n h0 h1 => by rw [IntKind.wrap_i64]; omega) m b hm hb).2
theorem ref_lt (l : List Int) (k : Nat) (h : k ≤ 8) : SetM.refOf l k < 256 := Nat.lt_of_lt_of_le (SetM.refOf_lt l k) (Nat.pow_le_pow_right (n := 2) (by decide) h : 2 ^ k ≤ 2 ^ 8)
theorem ref_or (l : List Int) (k : Nat) (h : k < 8) (hm : (k : Int) ∈ l) : bits .or .i64 (SetM.refOf l k : Nat) ((2 ^ k : Nat) : Int) = (SetM.refOf l (k + 1) : Nat) := by
  rw [or_small _ _ (ref_lt l k (by omega)) (show 2 ^ k < 2 ^ 8 from Nat.pow_lt_pow_right (by decide) h), SetM.refOf_hit l k hm]
theorem wrap_pow (k : Nat) (h : k < 8) : wrap64 ((2 : Int) ^ k) = ((2 ^ k : Nat) : Int) := by
  have h3 : k = 0 ∨ k = 1 ∨ k = 2 ∨ k = 3 ∨ k = 4 ∨ k = 5 ∨ k = 6 ∨ k = 7 := by omega
  rcases h3 with rfl | rfl | rfl | rfl | rfl | rfl | rfl | rfl <;> decide +kernel
theorem ref_or2 (l : List Int) (k : Nat) (h : k < 8) (hm : (k : Int) ∈ l) : bits .or .i64 (SetM.refOf l k : Nat) (wrap64 ((2 : Int) ^ k)) = (SetM.refOf l (k + 1) : Nat) := by
  rw [wrap_pow k h, ref_or l k h hm]
/-- The first place of a number that is there. -/
theorem first_at {l : List Int} {p : Int} (h : p ∈ l) : ∃ j, j < l.length ∧ l.getD j 0 = p ∧ ∀ i, i < j → l.getD i 0 ≠ p := by
  induction l with
  | nil => simp at h
  | cons y l ih =>
    by_cases e : y = p
    · exact ⟨0, by simp, by simpa using e, fun i hi => by omega⟩
    · obtain ⟨j, h1, h2, h3⟩ := ih (by simpa [Ne.symm e] using h)
      refine ⟨j + 1, by simp; omega, by simpa using h2, fun i hi => ?_⟩
      cases i with
      | zero => simpa using e
      | succ i => simpa using h3 i (by omega)
theorem rof_any (a : Option Addr) (cap : Nat) (l : List Int) (w : World) (h : Row w a l) :
    Calls Try.prog 21 #[.slice a l.length cap] w fun e w' => e = .returned (.int .i64 (SetM.of l : Nat)) ∧ w = w' := by
  have h1 := h.1
  unfold maxLen at h1
  have Hr := Lib.hid h
  clear h
  go_enter Try.func21, Try.ntmps21
  go_wp2
  go_loop [3, 4] (fun t p => ∃ k : Nat, k ≤ 8 ∧ p = .int .i64 k ∧ t = .int .i64 (SetM.refOf l k : Nat)) (fun _ p => 8 - (intOf p).toNat)
  case atStart => exact ⟨0, Nat.zero_le _, rfl, rfl⟩
  case round =>
    obtain ⟨k, hk, rfl, rfl⟩ := hrel
    by_cases hlt : k < 8
    · by_cases hm : (k : Int) ∈ l
      · have HS := Lib.hid (ref_or2 l k hlt hm)
        obtain ⟨j, hj, hjk, hjn⟩ := first_at hm
        have Hj := Lib.hid hjk
        have Hn := Lib.hid hjn
        clear hjk hjn hm
        go_wp2
        go_loop [3, 5] (fun t i => ∃ m : Nat, m ≤ j ∧ i = .int .i64 m ∧ t = .int .i64 (SetM.refOf l k : Nat)) (fun _ i => j - (intOf i).toNat)
        case atStart => exact ⟨0, Nat.zero_le _, rfl, rfl⟩
        case round =>
          obtain ⟨m, hm, rfl, rfl⟩ := hrel
          have hml : m < l.length := by omega
          obtain ⟨x, rfl, hc⟩ := Hr.out.cells hml
          have hcell := hc m hml
          clear hc
          by_cases hmj : m < j
          · have hne := Hn.out m hmj
            generalize l.getD m 0 = y at hne hcell
            go_wp2
            go_round
            case rel => exact ⟨m + 1, by omega, by go_num, rfl⟩
            case measure => simp [intOf]; omega
          · obtain rfl : m = j := by omega
            rw [Hj.out] at hcell
            go_wp2
            go_round
            case rel => exact ⟨k + 1, by omega, by go_num, by rw [HS.out]⟩
            case measure => simp [intOf]; omega
      · have HS := Lib.hid (SetM.refOf_miss l k hm)
        have Hm : Hid (∀ i, i < l.length → l.getD i 0 ≠ (k : Int)) := Lib.hid (fun i hi e => hm (by rw [← e, List.getD_eq_getElem?_getD, List.getElem?_eq_getElem hi]; exact List.getElem_mem hi))
        clear hm
        go_wp2
        go_loop [3, 5] (fun t i => ∃ m : Nat, m ≤ l.length ∧ i = .int .i64 m ∧ t = .int .i64 (SetM.refOf l k : Nat)) (fun _ i => l.length - (intOf i).toNat)
        case atStart => exact ⟨0, Nat.zero_le _, rfl, rfl⟩
        case round =>
          obtain ⟨m, hm, rfl, rfl⟩ := hrel
          by_cases hml : m < l.length
          · obtain ⟨x, rfl, hc⟩ := Hr.out.cells hml
            have hcell := hc m hml
            clear hc
            have hne := Hm.out m hml
            generalize l.getD m 0 = y at hne hcell
            go_wp2
            go_round
            case rel => exact ⟨m + 1, by omega, by go_num, rfl⟩
            case measure => simp [intOf]; omega
          · go_wp2
            go_round
            case rel => exact ⟨k + 1, by omega, by go_num, by rw [HS.out]⟩
            case measure => simp [intOf]; omega
    · have HS := Lib.hid (SetM.refOf_eq l)
      obtain rfl : k = 8 := by omega
      go_wp2
      go_ret
      exact ⟨ret_int (by rw [HS.out]), rfl⟩
theorem list_snoc {B : Nat} {l : List Int} {x : Int} {v' : Value} {w1 : World} (h : w1.ownsRow B 3 1 v' (l.length + 1) (l.map (Value.int .i64) ++ [.int .i64 x])) (hn : ¬ v' = .slice none 0 0) : Owns B w1 v' (l ++ [x]) := by
  refine ⟨?_, ?_⟩
  · rw [List.length_append, ← map_snoc]; exact h
  · simp [hn]
theorem rlist_any (s : Int) (w : World) : Calls Try.prog 37 #[.int .i64 s] w (Gave w (SetM.list s)) := by
  obtain ⟨i0, hi, hz0, hz1, hz2⟩ := info_parts info3
  go_enter Try.func37, Try.ntmps37
  go_wp2
  go_loopw [3, 4] (fun v p wr => ∃ k : Nat, k ≤ 8 ∧ p = .int .i64 k ∧ Owns w.heap.size wr v (SetM.upto s k) ∧ Below w.heap.size w wr) (fun _ p _ => 8 - (intOf p).toNat)
  case atStart => exact ⟨0, Nat.zero_le _, rfl, ⟨World.ownsRow_nil _ _ _ _, by simp [SetM.upto_zero]⟩, Below.refl _ _⟩
  case round =>
    obtain ⟨k, hk, rfl, ⟨hown, hnil⟩, hbel⟩ := hrel
    have hB := hbel.size
    have Hn := Lib.hid hnil
    clear hnil
    by_cases hlt : k < 8
    · have hul := SetM.upto_len s k
      by_cases hh : SetM.has s k = true
      · have Hs := Lib.hid (SetM.upto_hit s k hh)
        go_wp2_with (first
          | (go_at_call 22; refine (rhas_any _ _ _).mono ?_; rintro e w' ⟨rfl, rfl⟩; rw [hh])
          | (at_builtin; refine wpList_append_own _ rfl _ _ 39 rfl w.heap.size 3 i0 (.int .i64 0) 1 8 Try.underlying39 hi hz0 hz1 hz2 rfl (by decide) _ _ _ rfl (hown.alloc _) ⟨wr.heap.size, 0, none⟩ 1 1 [.int .i64 (k : Int)] rfl rfl ?c1 ?c2 ?c3 ?c4 ?c5 ?_))
        case c1 =>
          intro j u hj
          match j, hj with
          | 0, hj => simp at hj; subst hj; simp [Addr.add]
        case c2 => intro u hu; simp at hu; subst hu; rfl
        case c3 => unfold maxLen; omega
        case c4 => omega
        case c5 => simp; omega
        intro v' w1 hown' hgrow hnil'
        have hbel' : Below w.heap.size w w1 := (hbel.alloc (by omega) _).grown hgrow (by simp; omega) fun j hj => row_blk hown j hj
        have Hown := Lib.hid (list_snoc hown' hnil')
        clear hown' hgrow hown hnil'
        go_wp2
        go_roundw
        case rel => exact ⟨k + 1, by omega, by go_num, by rw [Hs.out]; exact Hown.out, hbel'⟩
        case measure => simp [intOf]; omega
      · have hh' : SetM.has s k = false := by simpa using hh
        have Hs := Lib.hid (SetM.upto_miss s k hh')
        clear hh
        go_wp2_with (go_at_call 22; refine (rhas_any _ _ _).mono ?_; rintro e w' ⟨rfl, rfl⟩; rw [hh'])
        go_roundw
        case rel => exact ⟨k + 1, by omega, by go_num, by rw [Hs.out]; exact ⟨hown, Hn.out⟩, hbel⟩
        case measure => simp [intOf]; omega
    · obtain rfl : k = 8 := by omega
      go_wp2
      go_ret
      exact ⟨_, rfl, ⟨hown, Hn.out⟩, hbel⟩
theorem rwith_any (s p : Int) (w : World) : Calls Try.prog 33 #[.int .i64 s, .int .i64 p] w fun e w' => e = .returned (.int .i64 (SetM.withN s p : Nat)) ∧ Below w.heap.size w w' := by
  obtain ⟨i0, hi, hz0, hz1, hz2⟩ := info_parts info3
  have hl8 := SetM.list_len s
  have HS := Lib.hid (SetM.of_with s p)
  go_enter Try.func33, Try.ntmps33
  go_wp2_with fail
  refine (rlist_any _ _).mono ?_
  rintro e w1 ⟨v, rfl, ⟨hown, hnil⟩, hbel⟩
  have hB := hbel.size
  clear hnil
  go_wp2_with (at_builtin; refine wpList_append_own _ rfl _ _ 39 rfl w.heap.size 3 i0 (.int .i64 0) 1 8 Try.underlying39 hi hz0 hz1 hz2 rfl (by decide) _ _ _ rfl (hown.alloc _) ⟨w1.heap.size, 0, none⟩ 1 1 [.int .i64 p] rfl rfl ?c1 ?c2 ?c3 ?c4 ?c5 ?_)
  case c1 =>
    intro j u hj
    match j, hj with
    | 0, hj => simp at hj; subst hj; simp [Addr.add]
  case c2 => intro u hu; simp at hu; subst hu; rfl
  case c3 => unfold maxLen; omega
  case c4 => omega
  case c5 => simp; omega
  intro v' w2 hown' hgrow hnil'
  have hbel' : Below w.heap.size w w2 := (hbel.alloc (by omega) _).grown hgrow (by simp; omega) fun j hj => row_blk hown j hj
  obtain ⟨L, hL⟩ : ∃ L, SetM.list s ++ [p] = L := ⟨_, rfl⟩
  have hrow' := list_snoc hown' hnil'
  rw [hL] at HS hrow'
  obtain ⟨a, cap, rfl, hrow⟩ := row_of hrow'
  have Hrow := Lib.hid hrow
  clear hown' hgrow hown hnil' hrow hrow' hL
  go_wp2_with (go_at_call 21; refine (rof_any _ _ L _ Hrow.out).mono ?_; rintro e w' ⟨rfl, rfl⟩)
  go_ret
  exact ⟨ret_int (by rw [HS.out]), hbel'⟩
/-- A number as one from 0 to n - 1. -/
theorem place_any (v n : Int) (w : World) (h : 0 < n) (h' : n ≤ 9223372036854775807) :
    Calls Try.prog 20 #[.int .i64 v, .int .i64 n] w fun e w' => e = .returned (.int .i64 (v % n)) ∧ w = w' := by
  have hm := Int.emod_nonneg v (show n ≠ 0 by omega)
  have hm2 := Int.emod_lt_of_pos v h
  have ht : 0 ≤ v.tmod n ∧ v % n = v.tmod n ∨ v.tmod n < 0 ∧ v % n = v.tmod n + n := by
    have h1 := Int.tmod_eq_emod (a := v) (b := n)
    split at h1 <;> omega
  have hb : -9223372036854775808 ≤ v.tmod n ∧ v.tmod n ≤ 9223372036854775807 := by omega
  obtain ⟨hb1, hb2⟩ := hb
  have hn0 : n ≠ 0 := by omega
  rcases ht with ⟨ht, he⟩ | ⟨ht, he⟩
  · have He := Lib.hid he
    clear he hm hm2
    go_enter Try.func20, Try.ntmps20
    go_wp2
    go_ret
    exact ⟨ret_int (by rw [He.out]), rfl⟩
  · have He := Lib.hid he
    clear he hm hm2
    go_enter Try.func20, Try.ntmps20
    go_wp2
    go_ret
    exact ⟨ret_int (by rw [He.out]), rfl⟩
/-! numbers of a row -/
open Tab in
/-- A row of numbers, at a place; 0 behind the end. -/
def num (L : List Int) (i : Int) (n : Int) : Int := L.getD i.toNat 0 % n
open Tab in
theorem at_any (a : Option Addr) (cap : Nat) (L : List Int) (i : Int) (w : World) (h : IntRow w ⟨a, cap⟩ L) (h0 : 0 ≤ i) :
    Calls Try.prog 67 #[.slice a L.length cap, .int .i64 i] w fun e w' => e = .returned (.int .i64 (L.getD i.toNat 0)) ∧ w = w' := by
  have hl := h.len
  unfold maxLen at hl
  obtain ⟨k, rfl⟩ := Int.eq_ofNat_of_zero_le h0
  by_cases hk : k < L.length
  · have hv := List.getElem?_eq_getElem hk
    generalize hu : L[k] = u at hv
    obtain ⟨x, hx, hc⟩ := IntRow.at h hv
    obtain rfl : a = some x := hx
    have HE : Hid (u = L.getD ((k : Int)).toNat 0) := Lib.hid (by rw [Int.toNat_natCast, List.getD_eq_getElem?_getD, hv]; rfl)
    generalize L.getD ((k : Int)).toNat 0 = r at HE ⊢
    clear hv hu h
    go_enter Try.func67, Try.ntmps67
    go_wp2
    go_ret
    exact ⟨ret_int HE.out, rfl⟩
  · have HE : Hid (0 = L.getD ((k : Int)).toNat 0) := Lib.hid (by rw [Int.toNat_natCast, List.getD_eq_getElem?_getD, List.getElem?_eq_none (by omega)]; rfl)
    generalize L.getD ((k : Int)).toNat 0 = r at HE ⊢
    clear h
    go_enter Try.func67, Try.ntmps67
    go_wp2
    go_ret
    exact ⟨ret_int HE.out, rfl⟩
open Tab in
theorem from_any (a : Option Addr) (cap : Nat) (L : List Int) (i n : Int) (w : World) (h : IntRow w ⟨a, cap⟩ L) (h0 : 0 ≤ i) (hn : 0 < n) (hn' : n ≤ 1000) :
    Calls Try.prog 46 #[.slice a L.length cap, .int .i64 i, .int .i64 n] w fun e w' => e = .returned (.int .i64 (num L i n)) ∧ w = w' := by
  have H := Lib.hid h
  clear h
  go_enter Try.func46, Try.ntmps46
  go_wp2_with fail
  refine (at_any a cap L i w H.out h0).mono ?_
  rintro e w' ⟨rfl, rfl⟩
  have HE : Hid (L.getD i.toNat 0 % n = num L i n) := Lib.hid rfl
  generalize L.getD i.toNat 0 = v at HE ⊢
  go_wp2_with fail
  refine (place_any v n _ hn (by omega)).mono ?_
  rintro e w' ⟨rfl, rfl⟩
  go_wp2
  go_ret
  exact ⟨ret_int HE.out, rfl⟩
theorem num_range (L : List Int) (i n : Int) (hn : 0 < n) : 0 ≤ num L i n ∧ num L i n < n := ⟨Int.emod_nonneg _ (by omega), Int.emod_lt_of_pos _ hn⟩
end RefS
namespace Gath
open Go Go.RowKit
open Tab
section
variable {α : Type} {enc : α → List Value} {size : Nat} {B : Nat} {w w' : World} {e : TypeId} {v : Value} {l : List α}
/-- A slice of its own memory (laid since B) that holds the elements l. -/
def Owns (enc : α → List Value) (size B : Nat) (w : World) (e : TypeId) (v : Value) (l : List α) : Prop := w.ownsRow B e size v l.length (l.flatMap enc)
theorem Owns.nil : Owns enc size B w e (.slice none 0 0) ([] : List α) := World.ownsRow_nil _ _ _ _
theorem Owns.snoc {x : α} {v' : Value} (h : w.ownsRow B e size v' (l.length + 1) (l.flatMap enc ++ enc x)) : Owns enc size B w e v' (l ++ [x]) := by
  unfold Owns
  rw [List.length_append, List.flatMap_append, List.flatMap_cons, List.flatMap_nil, List.append_nil]
  exact h
theorem Owns.below (h : Owns enc size B w e v l) (hb : Below w.heap.size w w') : Owns enc size B w' e v l :=
  World.ownsRow.kept (row := none) h ⟨hb.os, hb.tape, hb.output, hb.size, fun j hj _ => hb.block j hj⟩ (by cases hv : v.ownBlock <;> simp)
theorem Owns.mono {B' : Nat} (h : Owns enc size B w e v l) (hb : B' ≤ B) : Owns enc size B' w e v l := by
  refine ⟨h.1, ?_⟩
  rcases h.2 with hn | ⟨g, cap, cur, rfl, h1, h2⟩
  · exact .inl hn
  · exact .inr ⟨g, cap, cur, rfl, by omega, h2⟩
theorem Owns.blk (h : Owns enc size B w e v l) (j : Nat) (hj : v.ownBlock = some j) : B ≤ j := by
  rcases h.2 with ⟨rfl, _⟩ | ⟨g, cap, cur, rfl, hb, _, _⟩
  · simp [Value.ownBlock] at hj
  · obtain rfl : g = j := by simpa [Value.ownBlock] using hj
    exact hb
theorem flat_at (henc : ∀ x, (enc x).length = size) : ∀ (l : List α) (i : Nat) (x : α), l[i]? = some x → ((l.flatMap enc).drop (i * size)).take size = enc x
  | [], i, x, h => by simp at h
  | y :: l, 0, x, h => by
    obtain rfl : y = x := by simpa using h
    rw [Nat.zero_mul, List.drop_zero, List.flatMap_cons, ← henc y, List.take_left]
  | y :: l, i + 1, x, h => by
    rw [List.flatMap_cons, Nat.add_mul, Nat.one_mul, Nat.add_comm, ← henc y, List.drop_append, List.drop_of_length_le (by omega), List.nil_append, Nat.add_sub_cancel_left, henc y]
    exact flat_at henc l i x (by simpa using h)
/-- What was gathered reads as a row. -/
theorem Owns.row (h : Owns enc size B w e v l) (henc : ∀ x, (enc x).length = size) : ∃ s : Sl, v = s.val l.length ∧ RowOf size enc w s l := by
  rcases h.2 with ⟨rfl, h0⟩ | ⟨g, cap, cur, rfl, h1, h2, h3, h4, h5, h6⟩
  · have : l = [] := List.eq_nil_of_length_eq_zero h0
    subst this
    exact ⟨⟨none, 0⟩, rfl, RowOf.nil w⟩
  · refine ⟨⟨some ⟨g, 0, none⟩, cap⟩, rfl, .inr ⟨_, rfl, h3, h4, fun i x hx j u hu => ?_⟩⟩
    have hi : i < l.length := (List.getElem?_eq_some_iff.1 hx).1
    have hj : j < size := by rw [← henc x]; exact (List.getElem?_eq_some_iff.1 hu).1
    rw [Addr.add_mid, Nat.zero_add, Addr.add_mid, cell_of_row _ _ _ _ _ _ h2]
    have hf := flat_at henc l i x hx
    rw [← h6] at hf
    rw [← hf] at hu
    have hlt : i * size + j < l.length * size := by
      have : (i + 1) * size ≤ l.length * size := Nat.mul_le_mul_right _ hi
      rw [Nat.add_mul, Nat.one_mul] at this
      omega
    rw [List.getElem?_take, if_pos hj, List.getElem?_drop, List.getElem?_take, if_pos hlt, Array.getElem?_toList] at hu
    exact hu
end
end Gath
namespace PlaceM
open Go Tab
structure Spt where
  g : Nat
  k : Nat
  i : Nat
  p : Int
  deriving DecidableEq, Inhabited
/-- A table of few groups, with short rows. -/
structure Few (T : Tab) : Prop where
  groups : T.groups.length ≤ 1000
  rows : ∀ g ∈ T.groups, g.1.length ≤ 1000 ∧ g.2.length ≤ 1000
def Spt.cells (x : Spt) : List Value := [I x.g, I x.k, I x.i, I x.p]
theorem Spt.one (x : Spt) : x.cells.toArray.all (·.oneCell') = true := by simp [Spt.cells, Value.oneCell']
def one (g k i : Nat) (p : Int) : List Spt := if 0 ≤ p ∧ p < 8 then [⟨g, k, i, p⟩] else []
def rowS (g k : Nat) : Nat → List Int → List Spt
  | _, [] => []
  | i, p :: l => one g k i p ++ rowS g k (i + 1) l
def grpS (g : Nat) (x : List Int × List Int) : List Spt := rowS g 0 0 x.1 ++ rowS g 1 0 x.2
def allS : Nat → List (List Int × List Int) → List Spt
  | _, [] => []
  | g, x :: l => grpS g x ++ allS (g + 1) l
def spots (T : Tab) : List Spt := allS 0 T.groups
theorem rowS_append (g k : Nat) : ∀ (i : Nat) (l m : List Int), rowS g k i (l ++ m) = rowS g k i l ++ rowS g k (i + l.length) m
  | i, [], m => rfl
  | i, p :: l, m => by
    rw [List.cons_append, rowS, rowS, rowS_append g k (i + 1) l m, List.append_assoc, List.length_cons, show i + 1 + l.length = i + (l.length + 1) by omega]
theorem allS_append : ∀ (g : Nat) (l m : List (List Int × List Int)), allS g (l ++ m) = allS g l ++ allS (g + l.length) m
  | g, [], m => rfl
  | g, x :: l, m => by
    rw [List.cons_append, allS, allS, allS_append (g + 1) l m, List.append_assoc, List.length_cons, show g + 1 + l.length = g + (l.length + 1) by omega]
theorem take_succ {α : Type} {l : List α} {k : Nat} {v : α} (h : l[k]? = some v) : l.take (k + 1) = l.take k ++ [v] := by
  obtain ⟨hk, rfl⟩ := List.getElem?_eq_some_iff.1 h
  exact List.take_succ_eq_append_getElem hk
theorem row_step {g k i : Nat} {l : List Int} {p : Int} (h : l[i]? = some p) : rowS g k 0 (l.take (i + 1)) = rowS g k 0 (l.take i) ++ one g k i p := by
  have hi : i < l.length := (List.getElem?_eq_some_iff.1 h).1
  rw [take_succ h, rowS_append, List.length_take, Nat.min_eq_left (by omega), Nat.zero_add]
  simp [rowS]
theorem row_hit {g k i : Nat} {l : List Int} {p : Int} (h : l[i]? = some p) (h0 : 0 ≤ p) (h8 : p < 8) : rowS g k 0 (l.take (i + 1)) = rowS g k 0 (l.take i) ++ [⟨g, k, i, p⟩] := by
  rw [row_step h, one, if_pos ⟨h0, h8⟩]
theorem row_miss {g k i : Nat} {l : List Int} {p : Int} (h : l[i]? = some p) (h0 : ¬ (0 ≤ p ∧ p < 8)) : rowS g k 0 (l.take (i + 1)) = rowS g k 0 (l.take i) := by
  rw [row_step h, one, if_neg h0, List.append_nil]
theorem all_step {g : Nat} {l : List (List Int × List Int)} {x : List Int × List Int} (h : l[g]? = some x) : allS 0 (l.take (g + 1)) = allS 0 (l.take g) ++ (rowS g 0 0 x.1 ++ rowS g 1 0 x.2) := by
  have hi : g < l.length := (List.getElem?_eq_some_iff.1 h).1
  rw [take_succ h, allS_append, List.length_take, Nat.min_eq_left (by omega), Nat.zero_add]
  simp [allS, grpS]
theorem one_len (g k i : Nat) (p : Int) : (one g k i p).length ≤ 1 := by unfold one; split <;> simp
theorem rowS_len (g k : Nat) : ∀ (i : Nat) (l : List Int), (rowS g k i l).length ≤ l.length
  | i, [] => Nat.le_refl _
  | i, p :: l => by
    rw [rowS, List.length_append, List.length_cons]
    have := one_len g k i p
    have := rowS_len g k (i + 1) l
    omega
theorem allS_len : ∀ (g : Nat) (l : List (List Int × List Int)), (∀ x ∈ l, x.1.length ≤ 1000 ∧ x.2.length ≤ 1000) → (allS g l).length ≤ l.length * 2000
  | g, [], _ => by simp [allS]
  | g, x :: l, h => by
    rw [allS, List.length_append, List.length_cons, Nat.add_mul]
    have h1 := h x (by simp)
    have h2 := allS_len (g + 1) l (fun y hy => h y (by simp [hy]))
    have h3 := rowS_len g 0 0 x.1
    have h4 := rowS_len g 1 0 x.2
    rw [grpS, List.length_append]
    omega
theorem small_len {g : Nat} {l : List (List Int × List Int)} (hl : l.length ≤ 1000) (h : ∀ x ∈ l, x.1.length ≤ 1000 ∧ x.2.length ≤ 1000) : (allS g l).length ≤ 2000000 := by
  have := allS_len g l h
  omega
/-- The first place of a number. -/
def find (p : Int) (l : List Spt) : Option Spt := l.find? (fun x => x.p == p)
theorem find_none {p : Int} {l : List Spt} (h : ∀ x ∈ l, x.p ≠ p) : find p l = none := by
  unfold find
  rw [List.find?_eq_none]
  intro x hx
  simpa using h x hx
def where_ (T : Tab) (p : Int) : Option Spt := find p (spots T)
/-- Do two stand beside each other? -/
def beside (T : Tab) (p q : Int) : Bool := match where_ T p, where_ T q with
  | some a, some b => a.g == b.g && a.k != b.k
  | _, _ => false
end PlaceM
namespace May
open Go.ChangeShapes Go.WideShapes Go.ChangeAt Go.RowKit
open Tab
theorem ret_bool {a b : Bool} (h : a = b) : Ending.returned (.bool a) = .returned (.bool b) := by rw [h]
/-- Are all numbers from 0 to m? -/
def inB (m : Int) (n : Int) : Bool := decide (0 ≤ n) && decide (n ≤ m)
def allIn (m : Int) (l : List Int) : Bool := l.all (inB m)
theorem take_succ' {α : Type} (l : List α) (k : Nat) (v : α) (h : l[k]? = some v) : l.take (k + 1) = l.take k ++ [v] := by
  rw [List.take_add_one, h]; rfl
theorem all_step {α : Type} {f : α → Bool} {l : List α} {k : Nat} {v : α} (h : l[k]? = some v) (hk : (l.take k).all f = true) (hv : f v = true) : (l.take (k + 1)).all f = true := by
  rw [take_succ' l k v h, List.all_append, hk]; simp [hv]
end May
end Go.Proofs.Ytneaomdgjlmleaa
namespace Go.Proofs.Fl
open Ieee
abbrev D : Format := Ieee.double
theorem lp_eq : D.leastPlace = -1074 := by decide
theorem binade_eq : D.binade = 4503599627370496 := by decide
theorem inf_eq : D.infRung = 9218868437227405312 := by decide
theorem sw_eq : D.signWeight = 9223372036854775808 := by decide
theorem fb_eq : D.fractionBits = 52 := rfl
/-! rounding a natural number at a binary place -/
/-- v / 2^d, rounded to the nearest, between two to the even one -/
def rhe (v d : Nat) : Nat := v / 2 ^ d + (decide (2 ^ d < 2 * (v % 2 ^ d)) || (2 ^ d == 2 * (v % 2 ^ d) && v / 2 ^ d % 2 == 1)).toNat
theorem rhe_zero (v : Nat) : rhe v 0 = v := by
  unfold rhe; simp [Nat.mod_one]
theorem rhe_exact (v d : Nat) (h : v % 2 ^ d = 0) : rhe v d = v / 2 ^ d := by
  have hp : 0 < 2 ^ d := Nat.two_pow_pos d
  unfold rhe; rw [h]
  simp
/-- a common power of two falls out -/
theorem rhe_scale (v d k : Nat) : rhe (v * 2 ^ k) (d + k) = rhe v d := by
  have hk : 0 < 2 ^ k := Nat.two_pow_pos k
  unfold rhe
  rw [Nat.pow_add, Nat.mul_div_mul_right _ _ hk, Nat.mul_mod_mul_right]
  have e1 : decide (2 ^ d * 2 ^ k < 2 * (v % 2 ^ d * 2 ^ k)) = decide (2 ^ d < 2 * (v % 2 ^ d)) := by
    rw [← Nat.mul_assoc]; exact decide_eq_decide.2 (Nat.mul_lt_mul_right hk)
  have e2 : (2 ^ d * 2 ^ k == 2 * (v % 2 ^ d * 2 ^ k)) = (2 ^ d == 2 * (v % 2 ^ d)) := by
    rw [← Nat.mul_assoc, Bool.eq_iff_iff, beq_iff_eq, beq_iff_eq]
    exact ⟨fun h => Nat.eq_of_mul_eq_mul_right hk h, fun h => congrArg (· * 2 ^ k) h⟩
  rw [e1, e2]
/-- what 'cut' gives, to the even one -/
theorem cut_even (neg : Bool) (n drop : Nat) : Toward.even.cut neg n drop = rhe n drop := by
  have key : ∀ g, g = drop ∨ (g ≤ drop ∧ n.log2 + 2 ≤ g) → rhe n g = rhe n drop := by
    intro g hg
    rcases hg with rfl | ⟨h1, h2⟩
    · rfl
    · have small : ∀ e, n.log2 + 2 ≤ e → rhe n e = 0 := by
        intro e he
        have hn : n < 2 ^ (n.log2 + 1) := Nat.lt_log2_self
        have hpe : 2 ^ (n.log2 + 2) ≤ 2 ^ e := Nat.pow_le_pow_right (by decide) he
        have hs : 2 ^ (n.log2 + 2) = 2 ^ (n.log2 + 1) * 2 := Nat.pow_succ ..
        unfold rhe
        rw [Nat.div_eq_of_lt (by omega), Nat.mod_eq_of_lt (by omega)]
        have c1 : ¬ 2 ^ e < 2 * n := by omega
        have c2 : ¬ 2 ^ e = 2 * n := by omega
        simp [c1]
      rw [small g h2, small drop (by omega)]
  have h := key (min drop (n.log2 + 2)) (by omega)
  rw [← h]
  unfold Toward.cut rhe
  simp only [Nat.one_shiftLeft]
/-! the rung of a number v * 2^(-1074 - E) -/
def rungV (E v : Nat) : Nat := (max (v.log2 - 52) E - E) * 4503599627370496 + rhe v (max (v.log2 - 52) E)
theorem log2_mul_pow (m P : Nat) (h : m ≠ 0) : (m * 2 ^ P).log2 = m.log2 + P := by
  have hp : m * 2 ^ P ≠ 0 := Nat.mul_ne_zero h (by have := Nat.two_pow_pos P; omega)
  rw [Nat.log2_eq_iff hp]
  have h1 := Nat.log2_self_le h
  have h2 : m < 2 ^ (m.log2 + 1) := Nat.lt_log2_self
  have hP := Nat.two_pow_pos P
  rw [Nat.add_right_comm, Nat.pow_add, Nat.pow_add 2 (m.log2 + 1)]
  exact ⟨Nat.mul_le_mul_right _ h1, (Nat.mul_lt_mul_right hP).2 h2⟩
theorem nearest_eq (neg : Bool) (m : Nat) (p : Int) (P E : Nat) (h : p + 1074 + E = P) : D.nearest neg m p = D.word neg (min (rungV E (m * 2 ^ P)) D.infRung) := by
  unfold Format.nearest
  by_cases hm : m = 0
  · subst hm
    rw [if_pos rfl, Nat.zero_mul]
    have : rungV E 0 = 0 := by
      unfold rungV rhe
      have e : max (Nat.log2 0 - 52) E = E := by rw [Nat.log2_zero]; omega
      rw [e, Nat.zero_div, Nat.zero_mod]
      simp
    rw [this]; rfl
  rw [if_neg hm]
  dsimp only
  rw [lp_eq, binade_eq, fb_eq]
  refine congrArg (fun t => D.word neg (min t D.infRung)) ?_
  have hl : (m * 2 ^ P).log2 = m.log2 + P := log2_mul_pow m P hm
  have hlast : max (p + (m.log2 : Int) - ((52 : Nat) : Int)) (-1074) = ((max ((m * 2 ^ P).log2 - 52) E : Nat) : Int) - 1074 - E := by
    rw [hl]; omega
  rw [hlast, cut_even]
  unfold rungV
  generalize max ((m * 2 ^ P).log2 - 52) E = L at *
  have a1 : ((L : Int) - 1074 - (E : Int) - -1074).toNat = L - E := by omega
  rw [a1]
  congr 1
  rw [Nat.shiftLeft_eq]
  by_cases hPL : L ≤ P
  · have a2 : (p - ((L : Int) - 1074 - E)).toNat = P - L := by omega
    have a3 : ((L : Int) - 1074 - E - p).toNat = 0 := by omega
    rw [a2, a3, rhe_zero]
    have hx : m * 2 ^ P = m * 2 ^ (P - L) * 2 ^ L := by rw [Nat.mul_assoc, ← Nat.pow_add]; congr 2; omega
    rw [hx]
    have := rhe_scale (m * 2 ^ (P - L)) 0 L
    rw [Nat.zero_add] at this
    rw [this, rhe_zero]
  · have a2 : (p - ((L : Int) - 1074 - E)).toNat = 0 := by omega
    have a3 : ((L : Int) - 1074 - E - p).toNat = L - P := by omega
    rw [a2, a3, Nat.pow_zero, Nat.mul_one]
    have := rhe_scale m (L - P) P
    rw [show L - P + P = L by omega] at this
    exact this.symm
/-! the value of a rung, times 2^1074 -/
def val (r : Nat) : Nat := if r < 4503599627370496 then r else (4503599627370496 + r % 4503599627370496) * 2 ^ (r / 4503599627370496 - 1)
theorem val_lt {r r' : Nat} (h : r < r') : val r < val r' := by
  unfold val
  by_cases h1 : r < 4503599627370496
  · rw [if_pos h1]
    by_cases h2 : r' < 4503599627370496
    · rw [if_pos h2]; exact h
    · rw [if_neg h2]
      have := Nat.two_pow_pos (r' / 4503599627370496 - 1)
      have : (4503599627370496 + r' % 4503599627370496) * 1 ≤ (4503599627370496 + r' % 4503599627370496) * 2 ^ (r' / 4503599627370496 - 1) := Nat.mul_le_mul_left _ this
      omega
  · have h2 : ¬ r' < 4503599627370496 := by omega
    rw [if_neg h1, if_neg h2]
    have hq : r / 4503599627370496 ≤ r' / 4503599627370496 := Nat.div_le_div_right (by omega)
    by_cases e : r / 4503599627370496 = r' / 4503599627370496
    · rw [e]; exact (Nat.mul_lt_mul_right (Nat.two_pow_pos _)).2 (by omega)
    · have hm : r % 4503599627370496 < 4503599627370496 := Nat.mod_lt _ (by decide)
      have hm' : r' % 4503599627370496 < 4503599627370496 := Nat.mod_lt _ (by decide)
      have p1 : 2 ^ (r / 4503599627370496) ≤ 2 ^ (r' / 4503599627370496 - 1) := Nat.pow_le_pow_right (by decide) (by omega)
      have p0 : 2 ^ (r / 4503599627370496) = 2 ^ (r / 4503599627370496 - 1) * 2 := by
        rw [← Nat.pow_succ]; congr 1; omega
      have hpos := Nat.two_pow_pos (r / 4503599627370496 - 1)
      have s1 : (4503599627370496 + r % 4503599627370496) * 2 ^ (r / 4503599627370496 - 1) < 9007199254740992 * 2 ^ (r / 4503599627370496 - 1) := (Nat.mul_lt_mul_right hpos).2 (by omega)
      have s2 : 4503599627370496 * 2 ^ (r' / 4503599627370496 - 1) ≤ (4503599627370496 + r' % 4503599627370496) * 2 ^ (r' / 4503599627370496 - 1) := Nat.mul_le_mul_right _ (by omega)
      omega
theorem val_le {r r' : Nat} (h : r ≤ r') : val r ≤ val r' := by
  rcases Nat.eq_or_lt_of_le h with rfl | h
  · exact Nat.le_refl _
  · exact Nat.le_of_lt (val_lt h)
/-- a number of at most 53 binary digits is what its rung stands for -/
theorem val_rungV (v : Nat) (h : v % 2 ^ (v.log2 - 52) = 0) : val (rungV 0 v) = v := by
  unfold rungV
  rw [show max (v.log2 - 52) 0 = v.log2 - 52 by omega, Nat.sub_zero, rhe_exact _ _ h]
  have hdm := Nat.div_add_mod v (2 ^ (v.log2 - 52))
  rw [h, Nat.add_zero] at hdm
  by_cases h52 : v.log2 ≤ 52
  · rw [show v.log2 - 52 = 0 by omega] at hdm ⊢
    simp only [Nat.pow_zero, Nat.div_one, Nat.zero_mul, Nat.zero_add]
    have hv : v < 2 ^ (v.log2 + 1) := Nat.lt_log2_self
    have : 2 ^ (v.log2 + 1) ≤ 2 ^ 53 := Nat.pow_le_pow_right (by decide) (by omega)
    have e53 : (2 : Nat) ^ 53 = 9007199254740992 := by decide
    unfold val
    split
    · rfl
    · rw [show v / 4503599627370496 = 1 by omega]; simp; omega
  · have hv0 : v ≠ 0 := by intro h0; subst h0; rw [Nat.log2_zero] at h52; omega
    have hlo := Nat.log2_self_le hv0
    have hhi : v < 2 ^ (v.log2 + 1) := Nat.lt_log2_self
    have c1 : 4503599627370496 ≤ v / 2 ^ (v.log2 - 52) := by
      rw [Nat.le_div_iff_mul_le (Nat.two_pow_pos _), show (4503599627370496 : Nat) = 2 ^ 52 by decide, ← Nat.pow_add, show 52 + (v.log2 - 52) = v.log2 by omega]
      exact hlo
    have c2 : v / 2 ^ (v.log2 - 52) < 9007199254740992 := by
      rw [Nat.div_lt_iff_lt_mul (Nat.two_pow_pos _), show (9007199254740992 : Nat) = 2 ^ 53 by decide, ← Nat.pow_add, show 53 + (v.log2 - 52) = v.log2 + 1 by omega]
      exact hhi
    generalize hL : v.log2 - 52 = L at *
    generalize hc : v / 2 ^ L = c at *
    unfold val
    rw [if_neg (by have : 1 * 4503599627370496 ≤ L * 4503599627370496 := Nat.mul_le_mul_right _ (by omega); omega)]
    have e1 : (L * 4503599627370496 + c) / 4503599627370496 = L + 1 := by omega
    have e2 : (L * 4503599627370496 + c) % 4503599627370496 = c - 4503599627370496 := by omega
    rw [e1, e2, show 4503599627370496 + (c - 4503599627370496) = c by omega, show L + 1 - 1 = L by omega, Nat.mul_comm]
    exact hdm
theorem thin (c e : Nat) (h : c < 9007199254740992) : (c * 2 ^ e) % 2 ^ ((c * 2 ^ e).log2 - 52) = 0 := by
  by_cases hc : c = 0
  · subst hc; simp
  · rw [log2_mul_pow c e hc]
    have hl : c.log2 < 53 := (Nat.log2_lt hc).2 (by rw [show (2 : Nat) ^ 53 = 9007199254740992 by decide]; exact h)
    have hd : 2 ^ (c.log2 + e - 52) ∣ 2 ^ e := Nat.pow_dvd_pow 2 (by omega)
    exact Nat.mod_eq_zero_of_dvd (Nat.dvd_trans hd (Nat.dvd_mul_left _ _))
/-! words -/
def rung (x : Nat) : Nat := x % 9223372036854775808
def sg (x : Nat) : Bool := x / 9223372036854775808 % 2 == 1
def isn (x : Nat) : Bool := decide (9218868437227405312 < rung x)
def key (x : Nat) : Int := if sg x then -(rung x : Int) else rung x
def sval (x : Nat) : Int := if sg x then -(val (rung x) : Int) else val (rung x)
/-- finite -/
def fin (x : Nat) : Prop := rung x < 9218868437227405312
theorem read_nan (x : Nat) (h : isn x = true) : D.read x = .nan (sg x) (rung x - 9218868437227405312) := by
  have h' : 9218868437227405312 < rung x := of_decide_eq_true h
  unfold Format.read
  dsimp only
  rw [sw_eq, binade_eq, inf_eq]
  show (if rung x < _ then _ else _) = _
  rw [if_neg (by omega)]
  show (if rung x < _ then _ else _) = _
  rw [if_neg (by omega)]
  show (if rung x = _ then _ else _) = _
  rw [if_neg (by omega)]
  rfl
theorem read_inf (x : Nat) (h : rung x = 9218868437227405312) : D.read x = .infinity (sg x) := by
  unfold Format.read
  dsimp only
  rw [sw_eq, binade_eq, inf_eq]
  show (if rung x < _ then _ else _) = _
  rw [if_neg (by omega)]
  show (if rung x < _ then _ else _) = _
  rw [if_neg (by omega)]
  show (if rung x = _ then _ else _) = _
  rw [if_pos h]
  rfl
theorem read_fin (x : Nat) (h : fin x) : ∃ (m : Nat) (i : Int) (P : Nat), D.read x = .number (sg x) m i ∧ i + 1074 = P ∧ m * 2 ^ P = val (rung x) ∧ m < 9007199254740992 := by
  unfold fin at h
  unfold Format.read
  dsimp only
  rw [sw_eq, binade_eq, inf_eq, lp_eq]
  by_cases h1 : rung x < 4503599627370496
  · refine ⟨rung x, -1074, 0, ?_, by omega, ?_, by omega⟩
    · show (if rung x < _ then _ else _) = _
      rw [if_pos h1]; rfl
    · unfold val; rw [if_pos h1]; simp
  · refine ⟨4503599627370496 + rung x % 4503599627370496, -1074 + ((rung x / 4503599627370496 - 1 : Nat) : Int), rung x / 4503599627370496 - 1, ?_, by omega, ?_, by omega⟩
    · show (if rung x < _ then _ else _) = _
      rw [if_neg h1]
      show (if rung x < _ then _ else _) = _
      rw [if_pos h]; rfl
    · unfold val; rw [if_neg h1]
theorem signed_scale (s : Bool) (m a k : Nat) : signed s m a * (2 ^ k : Nat) = signed s m (a + k) := by
  have e : ((m <<< a : Nat) : Int) * (2 ^ k : Nat) = ((m <<< (a + k) : Nat) : Int) := by
    rw [Nat.shiftLeft_eq, Nat.shiftLeft_eq, Nat.pow_add, ← Nat.mul_assoc]; simp
  unfold signed
  split
  · rw [Int.neg_mul, e]
  · exact e
theorem signed_sval (x : Nat) {m P : Nat} (h : m * 2 ^ P = val (rung x)) : signed (sg x) m P = sval x := by
  unfold signed sval
  rw [Nat.shiftLeft_eq, h]
theorem cmp_congr {a b c d : Int} (h1 : a < b ↔ c < d) (h2 : b < a ↔ d < c) : compare a b = compare c d := by
  rw [Int.compare_eq_ite_lt, Int.compare_eq_ite_lt]
  simp only [h1, h2]
theorem cmp_lt {a b : Int} (h : a < b) : compare a b = .lt := by rw [Int.compare_eq_ite_lt, if_pos h]
theorem cmp_gt {a b : Int} (h : b < a) : compare a b = .gt := by rw [Int.compare_eq_ite_lt, if_neg (by omega), if_pos h]
theorem cmp_scale (a b : Int) (k : Nat) (hk : 0 < k) : compare (a * k) (b * k) = compare a b := by
  have hk' : (0 : Int) < k := by omega
  exact cmp_congr ⟨fun h => Int.lt_of_mul_lt_mul_right h (by omega), fun h => Int.mul_lt_mul_of_pos_right h hk'⟩ ⟨fun h => Int.lt_of_mul_lt_mul_right h (by omega), fun h => Int.mul_lt_mul_of_pos_right h hk'⟩
theorem sval_cmp (x y : Nat) : compare (sval x) (sval y) = compare (key x) (key y) := by
  have h0 : val 0 = 0 := by decide
  have pos : ∀ r, 0 < r → 0 < val r := fun r h => by have := val_lt h; omega
  have lt : ∀ r r', r < r' → val r < val r' := fun r r' h => val_lt h
  have hiff : ∀ r r', val r < val r' ↔ r < r' := fun r r' => ⟨fun h => Nat.lt_of_not_le fun hh => by have := val_le hh; omega, fun h => val_lt h⟩
  have hz : ∀ r, val r = 0 ↔ r = 0 := fun r => ⟨fun h => by by_cases hr : r = 0; exact hr; have := pos r (by omega); omega, fun h => by subst h; exact h0⟩
  have a1 := hiff (rung x) (rung y)
  have a2 := hiff (rung y) (rung x)
  have a3 := hz (rung x)
  have a4 := hz (rung y)
  apply cmp_congr
  · unfold sval key; split <;> split <;> omega
  · unfold sval key; split <;> split <;> omega
theorem order_nan (x y : Nat) (h : isn x = true ∨ isn y = true) : D.order x y = none := by
  unfold Format.order
  rcases h with h | h
  · rw [read_nan x h]; rfl
  · rw [read_nan y h]
    cases D.read x <;> rfl
theorem order_key (x y : Nat) (hx : isn x = false) (hy : isn y = false) : D.order x y = some (compare (key x) (key y)) := by
  have hx' := of_decide_eq_false hx
  have hy' := of_decide_eq_false hy
  unfold Format.order
  by_cases fx : fin x
  · obtain ⟨m, i, P, rx, hP, vx, -⟩ := read_fin x fx
    by_cases fy : fin y
    · obtain ⟨n, j, Q, ry, hQ, vy, -⟩ := read_fin y fy
      rw [rx, ry]
      unfold Datum.order
      dsimp only
      congr 1
      rw [← sval_cmp, ← signed_sval x vx, ← signed_sval y vy]
      obtain ⟨B, hB⟩ : ∃ B : Nat, min i j + 1074 = B := ⟨(min i j + 1074).toNat, by omega⟩
      rw [← cmp_scale _ _ (2 ^ B) (Nat.two_pow_pos B), signed_scale, signed_scale]
      rw [show (i - min i j).toNat + B = P by omega, show (j - min i j).toNat + B = Q by omega]
    · have hy2 : rung y = 9218868437227405312 := by unfold fin at fy; omega
      rw [rx, read_inf y hy2]
      unfold fin at fx
      unfold Datum.order
      dsimp only
      congr 1
      unfold key
      rw [hy2]
      cases sg y
      · rw [cmp_lt (by cases sg x <;> simp <;> omega)]; rfl
      · rw [cmp_gt (by cases sg x <;> simp <;> omega)]; rfl
  · have hx2 : rung x = 9218868437227405312 := by unfold fin at fx; omega
    by_cases fy : fin y
    · obtain ⟨n, j, Q, ry, hQ, vy, -⟩ := read_fin y fy
      rw [ry, read_inf x hx2]
      unfold fin at fy
      unfold Datum.order
      dsimp only
      congr 1
      unfold key
      rw [hx2]
      cases sg x
      · rw [cmp_gt (by cases sg y <;> simp <;> omega)]; rfl
      · rw [cmp_lt (by cases sg y <;> simp <;> omega)]; rfl
    · have hy2 : rung y = 9218868437227405312 := by unfold fin at fy; omega
      rw [read_inf x hx2, read_inf y hy2]
      unfold Datum.order key
      dsimp only
      congr 1
      rw [hx2, hy2]
      cases sg x <;> cases sg y <;> decide
/-! the six comparisons, by the keys -/
theorem o_eq {x y : Nat} (hx : isn x = false) (hy : isn y = false) : (D.order x y == some .eq) = decide (key x = key y) := by
  rw [order_key x y hx hy, Int.compare_eq_ite_lt, Bool.eq_iff_iff]
  by_cases h : key x < key y
  · simp [h]; omega
  · by_cases h' : key y < key x
    · simp [h, h']; omega
    · simp [h, h']; omega
/-! exact sums -/
def T : Nat := 1074
theorem T_eq : T = 1074 := rfl
/-! whole numbers -/
theorem lt_val_inf (v : Nat) (h : v < 2 ^ (53 + T)) : v < val 9218868437227405312 := by
  unfold val
  rw [if_neg (by omega)]
  generalize he : 9218868437227405312 / 4503599627370496 - 1 = e
  have h52 : (4503599627370496 + 9218868437227405312 % 4503599627370496) = 2 ^ 52 := by decide
  rw [h52, ← Nat.pow_add]
  exact Nat.lt_of_lt_of_le h (Nat.pow_le_pow_right (by decide) (by rw [T_eq]; omega))
/-- a whole number below 2^53 as a word: its rung, its value -/
def irung (n : Nat) : Nat := rungV 0 (n * 2 ^ T)
theorem val_irung (n : Nat) (h : n < 9007199254740992) : val (irung n) = n * 2 ^ T := val_rungV _ (thin n T h)
theorem irung_lt (n : Nat) (h : n < 9007199254740992) : irung n < 9218868437227405312 := by
  have hv := val_irung n h
  have : n * 2 ^ T < val 9218868437227405312 := by
    apply lt_val_inf
    rw [Nat.pow_add]
    exact (Nat.mul_lt_mul_right (Nat.two_pow_pos T)).2 (by rw [show (2 : Nat) ^ 53 = 9007199254740992 by decide]; exact h)
  rw [← hv] at this
  exact Nat.lt_of_not_le fun hh => by have := val_le hh; omega
theorem write_int (s : Bool) (n : Nat) (h : n < 9007199254740992) : D.write (.number s n 0) = D.word s (irung n) := by
  unfold Format.write
  dsimp only
  rw [nearest_eq s n 0 T 0 (by rw [T_eq]; omega), inf_eq]
  have := irung_lt n h
  rw [Nat.min_eq_left (by unfold irung at this; omega)]
  rfl
end Go.Proofs.Fl
namespace Go.Proofs.Ytneaomdgjlmleaa
end Go.Proofs.Ytneaomdgjlmleaa
namespace Go.Proofs.Fl
open Ieee
/-- ten, 999.9, a half -/
abbrev ten : Nat := 4621819117588971520
abbrev half : Nat := 4602678819172646912
/-! the same by the other way: cut, and one more where the rest is more than a half -/
theorem float_of (n : Nat) (h : n < 9007199254740992) : floatOfInt .f64 (n : Int) = irung n := by
  show D.write (.number (decide ((n : Int) < 0)) (n : Int).natAbs 0) = _
  rw [show (n : Int).natAbs = n by omega, write_int _ n h, decide_eq_false (by omega)]
  rfl
/-! all seconds of whole ticks, by calculation -/
/-- n / 10 -/
def ofB (n : Nat) : Nat := (D.div (floatOfInt .f64 (n : Int)) ten).getD 0
end Go.Proofs.Fl
namespace Go.Proofs.Ytneaomdgjlmleaa
namespace Secs
open Go.ChangeShapes Go.WideShapes Go.ChangeAt Go.RowKit Go.Proofs.Fl
theorem ret_int {k : IntKind} {a b : Int} (h : a = b) : Ending.returned (.int k a) = .returned (.int k b) := by rw [h]
theorem ret_bool {a b : Bool} (h : a = b) : Ending.returned (.bool a) = .returned (.bool b) := by rw [h]
theorem ret_float {k : FloatKind} {a b : Nat} (h : a = b) : Ending.returned (.float k a) = .returned (.float k b) := by rw [h]
/-! is it a number? -/
theorem o_ne_self (x : Nat) : (FloatKind.f64.format.order x x != some .eq) = isn x := by
  show (D.order x x != some .eq) = isn x
  cases h : isn x
  · have := o_eq h h
    rw [bne, this]; simp
  · rw [order_nan x x (.inl h)]; rfl
theorem isnan_any (x : Nat) (w : World) : Calls Try.prog 101 #[.float .f64 x] w fun e w' => e = .returned (.bool (isn x)) ∧ w = w' := by
  go_enter Try.func101, Try.ntmps101
  go_wp2
  go_ret
  exact ⟨ret_bool (o_ne_self x), rfl⟩
/-! seconds of ticks -/
/-- that the quotients are what they are: proved by calculation elsewhere -/
def Quo : Prop := ∀ k : Nat, k ≤ 9999 → D.div (floatOfInt .f64 (k : Int)) ten = some (ofB k)
theorem quo_holds : Quo := by
  intro k hk
  have hf := float_of k (by omega)
  have hi := irung_lt k (by omega)
  obtain ⟨m, i, P, rx, -, -, -⟩ := read_fin (irung k) (by unfold fin rung; omega)
  have : ∃ s, D.div (floatOfInt .f64 (k : Int)) ten = some s := by
    rw [hf]
    unfold Ieee.Format.div
    rw [rx, show D.read ten = .number false 5629499534213120 (-49) by decide]
    unfold Ieee.Datum.quotient
    dsimp only
    rw [if_neg (by decide)]
    exact ⟨_, rfl⟩
  obtain ⟨s, hs⟩ := this
  unfold ofB
  rw [hs]
  rfl
theorem quo_at (hQ : Quo) (k : Int) (hk0 : 0 ≤ k) (hk : k ≤ 9999) : ∀ t w, (binOp .quo t (.float .f64 (floatOfInt .f64 k)) (.float .f64 4621819117588971520)).run Try.prog w = .ok (.float .f64 (ofB k.toNat)) w := by
  intro t w
  obtain ⟨n, rfl⟩ := Int.eq_ofNat_of_zero_le hk0
  exact run_float_arith w .quo t .f64 _ _ _ (hQ n (by omega))
theorem bits_call (x : Nat) (w : World) : (callFunc 83 #[.float .f64 x]).run Try.prog w = .ok (.value (.int .u64 x)) w := by
  rw [run_callFunc_extern (e := Extern.MathFloatBits.float64bits) Try.func83 (by kernel_rfl) (by kernel_rfl) (by kernel_rfl) (by kernel_rfl)]
  rfl
/-! how two stand to each other, named -/
theorem ord_cases (x y : Nat) (hx : isn x = false) (hy : isn y = false) :
    (key x < key y ∧ FloatKind.f64.format.order x y = some .lt) ∨ (key x = key y ∧ FloatKind.f64.format.order x y = some .eq) ∨ (key y < key x ∧ FloatKind.f64.format.order x y = some .gt) := by
  have h : FloatKind.f64.format.order x y = some (compare (key x) (key y)) := order_key x y hx hy
  rw [h, Int.compare_eq_ite_lt]
  rcases Int.lt_trichotomy (key x) (key y) with hl | hl | hl
  · exact .inl ⟨hl, by rw [if_pos hl]⟩
  · exact .inr (.inl ⟨hl, by rw [if_neg (by omega), if_neg (by omega)]⟩)
  · exact .inr (.inr ⟨hl, by rw [if_neg (by omega), if_pos hl]⟩)
theorem ord_nan (x y : Nat) (h : isn x = true ∨ isn y = true) : FloatKind.f64.format.order x y = none := order_nan x y h
theorem isnan_t {x : Nat} (h : isn x = true) (w : World) : Calls Try.prog 101 #[.float .f64 x] w fun e w' => e = .returned (.bool true) ∧ w = w' :=
  (isnan_any x w).mono fun _ _ ⟨a, b⟩ => ⟨by rw [a, h], b⟩
theorem isnan_f {x : Nat} (h : isn x = false) (w : World) : Calls Try.prog 101 #[.float .f64 x] w fun e w' => e = .returned (.bool false) ∧ w = w' :=
  (isnan_any x w).mono fun _ _ ⟨a, b⟩ => ⟨by rw [a, h], b⟩
/-! Ticks -/
end Secs
namespace MayF
open Go.ChangeShapes Go.WideShapes Go.ChangeAt Go.RowKit Go.Proofs.Fl
open Secs
end MayF
namespace May
open Go.ChangeShapes Go.WideShapes Go.ChangeAt Go.RowKit
open Tab MayF
def rowMay (l : List Int) : Bool := decide (l.length ≤ 8) && allIn 7 l
def groupMay (g : List Int × List Int) : Bool := rowMay g.1 && rowMay g.2
theorem row_new (w : World) (t : TypeId) (l : List Int) (n : Nat) (hn : l.length = n) (hm : n ≤ maxLen) (k : Nat) (hk : w.heap.size = k) : IntRow (w.alloc (.cells (l.map I).toArray t)) ⟨some ⟨k, 0, none⟩, n⟩ l := by
  subst hn hk
  refine .inr ⟨_, rfl, Nat.le_refl _, hm, fun i v hv j u hu => ?_⟩
  cases j with
  | zero =>
    obtain rfl := Option.some.inj hu
    rw [Nat.mul_one, add_two, Nat.add_zero, Addr.add_mid, Nat.zero_add]
    rw [cell_of_row _ _ _ _ _ _ (heap_alloc_new w _)]
    simp [hv]
  | succ j => cases hu
end May
namespace Ph
open Go Go.RowKit
section
variable {P : Program} {ops : Array Oper} {md : Region.Mode} {D : Nat → World → Prop} {cs : List Nat}
/-- The first p of the chain have come up, and no other of it. -/
def Upto (cs : List Nat) (p : Nat) (L : Array Bool) : Prop := ∀ q c, cs[q]? = some c → L.getD c false = decide (q < p)
def Cl (D : Nat → World → Prop) (cs : List Nat) (L : Array Bool) (w : World) : Prop := ∃ p, p ≤ cs.length ∧ Upto cs p L ∧ D p w
def upon (P : Program) (C : World → Prop) (w : World) (v : Value) : Result Next → Prop
  | .ok (.value u) w' => w' = w ∧ u = v ∧ C w
  | .ok .skip w' => v = undef ∧ C w'
  | .ok (.enter f args) w' => w' = w ∧ Calls P f args w (fun e w'' => e = .returned v ∧ C w'')
  | _ => False
def Steps (P : Program) (md : Region.Mode) (ops : Array Oper) (D : Nat → World → Prop) (cs : List Nat) (i : Nat) (o : Oper) (a : Act) (v : Value) : Prop :=
  ∀ L w, L.size = ops.size → i ∈ Region.ready md ops L → Cl D cs L w → upon P (Cl D cs (L.setIfInBounds i true)) w v ((execOp a.eval o).run P w)
def Passes (md : Region.Mode) (ops : Array Oper) (D : Nat → World → Prop) (cs : List Nat) (i : Nat) : Prop :=
  ∀ L w, L.size = ops.size → i ∈ Region.ready md ops L → Cl D cs L w → Cl D cs (L.setIfInBounds i true) w
def pOp (P : Program) (md : Region.Mode) (ops : Array Oper) (D : Nat → World → Prop) (cs : List Nat) (i : Nat) (K : Act → Prop) (a : Act) : Prop :=
  match ops[i]? with
  | none => False
  | some o => if Region.wanted o (yielded ops a.tmps) then ∃ v, Steps P md ops D cs i o a v ∧ K (a.put o.dst v) else Passes md ops D cs i ∧ K (a.put o.dst undef)
theorem pOp_mono {i : Nat} {a : Act} {K K' : Act → Prop} (h : ∀ a, K a → K' a) (hh : pOp P md ops D cs i K a) : pOp P md ops D cs i K' a := by
  unfold pOp at *
  split
  · rename_i ho; simp only [ho] at hh
  · rename_i o ho
    simp only [ho] at hh
    split
    · rename_i hw; simp only [hw, if_true] at hh; exact ⟨hh.choose, hh.choose_spec.1, h _ hh.choose_spec.2⟩
    · rename_i hw; simp only [hw] at hh; exact ⟨hh.1, h _ hh.2⟩
def wpAnyP (P : Program) (md : Region.Mode) (ops : Array Oper) (D : Nat → World → Prop) (cs : List Nat) (Q : Array Bool → Act → Prop) : Nat → Array Bool → Act → Prop
  | 0, listed, a => Region.ready md ops listed = [] ∧ Q listed a
  | fuel + 1, listed, a =>
    Region.ready md ops listed ≠ [] ∧
    ∀ i ∈ Region.ready md ops listed, pOp P md ops D cs i (wpAnyP P md ops D cs Q fuel (listed.setIfInBounds i true)) a
theorem wpAny_of_ph {Q : Array Bool → Act → Prop} {Q' : Exit → Act → World → Prop} (hQ : ∀ L a w, Cl D cs L w → Q L a → Q' .normal a w) : ∀ (fuel : Nat) (listed : Array Bool) (a : Act) (w : World), listed.size = ops.size → Cl D cs listed w →
    wpAnyP P md ops D cs Q fuel listed a → wpAny P md ops Q' fuel listed a w
  | 0, _, _, _, _, hw, h => ⟨h.1, hQ _ _ _ hw h.2⟩
  | fuel + 1, listed, a, w, hsz, hw, h => ⟨fun h0 => absurd h0 h.1, fun i hi => by
      have h1 := h.2 i hi
      unfold pOp at h1
      unfold wpOp
      split
      · rename_i ho; simp only [ho] at h1
      · rename_i o ho
        simp only [ho] at h1
        split
        · rename_i hwt
          simp only [hwt, if_true] at h1
          obtain ⟨v, hst, hK⟩ := h1
          refine .inl ?_
          have h2 := hst listed w hsz hi hw
          unfold Oper.wp
          generalize (execOp a.eval o).run P w = r at *
          have hsz' : (listed.setIfInBounds i true).size = ops.size := by simpa using hsz
          cases r with
          | ok n w' =>
            cases n <;> simp only [upon] at h2 <;> simp only [Oper.upon]
            case value u =>
              obtain ⟨rfl, rfl, hC⟩ := h2
              exact wpAny_of_ph hQ fuel _ _ _ hsz' hC hK
            case skip =>
              obtain ⟨rfl, hC⟩ := h2
              exact wpAny_of_ph hQ fuel _ _ _ hsz' hC hK
            case enter f args =>
              obtain ⟨rfl, hc⟩ := h2
              exact hc.mono fun e w'' ⟨he, hC⟩ => by subst he; exact wpAny_of_ph hQ fuel _ _ _ hsz' hC hK
          | halt x w' => simp only [upon] at h2
        · rename_i hwt
          simp only [hwt] at h1
          exact wpAny_of_ph hQ fuel _ _ _ (by simpa using hsz) (h1.1 listed w hsz hi hw) h1.2⟩
def YieldsP (P : Program) (md : Region.Mode) (ops : Array Oper) (D : Nat → World → Prop) (cs : List Nat) (i : Nat) (o : Oper) (v : Value) (a : Act) : Prop :=
  (Region.wanted o (yielded ops a.tmps) = true ∧ Steps P md ops D cs i o a v) ∨ (Region.wanted o (yielded ops a.tmps) = false ∧ v = undef ∧ Passes md ops D cs i)
theorem YieldsP.pOp {i : Nat} {o : Oper} {v : Value} {a : Act} (hi : ops[i]? = some o) (hy : YieldsP P md ops D cs i o v a) {K : Act → Prop} (h : K (a.put o.dst v)) : pOp P md ops D cs i K a := by
  unfold Ph.pOp
  simp only [hi]
  rcases hy with ⟨hw, hv⟩ | ⟨hw, rfl, hp⟩
  · simp only [hw, if_true]; exact ⟨v, hv, h⟩
  · simp only [hw, Bool.false_eq_true, if_false]; exact ⟨hp, h⟩
theorem YieldsP.of_same {i : Nat} {o : Oper} {v : Value} {a a' : Act} (hy : YieldsP P md ops D cs i o v a) (he : execOp a'.eval o = execOp a.eval o)
    (hw : Region.wanted o (yielded ops a'.tmps) = Region.wanted o (yielded ops a.tmps)) : YieldsP P md ops D cs i o v a' := by
  unfold YieldsP Steps at *
  rw [he, hw]
  exact hy
theorem yieldsP_of_pOp {i : Nat} {o : Oper} {a : Act} {K : Act → Prop} (hi : ops[i]? = some o) (h : pOp P md ops D cs i K a) : ∃ v, YieldsP P md ops D cs i o v a ∧ K (a.put o.dst v) := by
  unfold pOp at h
  simp only [hi] at h
  by_cases hw : Region.wanted o (yielded ops a.tmps) = true
  · simp only [hw, if_true] at h
    obtain ⟨v, h1, h2⟩ := h
    exact ⟨v, .inl ⟨hw, h1⟩, h2⟩
  · simp only [hw] at h
    exact ⟨undef, .inr ⟨by simpa using hw, rfl, h.1⟩, h.2⟩
theorem pOp_put {i j : Nat} {oi oj : Oper} {v : Value} (hj : ops[j]? = some oj) (hap : oi.apart ops oj = true)
    (hsi : ∀ cs b, oi.op ≠ .select cs b) (hsj : ∀ cs b, oj.op ≠ .select cs b) {K : Act → Prop} {a : Act}
    (hy : YieldsP P md ops D cs i oi v a) (h : pOp P md ops D cs j K (a.put oi.dst v)) :
    pOp P md ops D cs j (fun a' => YieldsP P md ops D cs i oi v a' ∧ K (a'.put oi.dst v)) a := by
  obtain ⟨h1, h2, h3⟩ := Oper.apart_spec hap
  have keep : ∀ (a : Act), YieldsP P md ops D cs i oi v a → ∀ u, YieldsP P md ops D cs i oi v (a.put oj.dst u) := fun a hy u =>
    hy.of_same (execOp_put oi hsi a oj.dst u h3) (wanted_put oi a oj.dst u h3)
  unfold pOp at *
  simp only [hj] at *
  rw [wanted_put oj a oi.dst v h1] at h
  split
  · rename_i hw
    simp only [hw, if_true] at h
    obtain ⟨u, hu, hn⟩ := h
    refine ⟨u, ?_, keep a hy u, by rw [← Act.put_comm a v u h2]; exact hn⟩
    unfold Steps at *
    rwa [execOp_put oj hsj a oi.dst v h1] at hu
  · rename_i hw
    simp only [hw] at h
    exact ⟨h.1, keep a hy _, by rw [← Act.put_comm a v undef h2]; exact h.2⟩
theorem wpAnyP_first {Q : Array Bool → Act → Prop} {i : Nat} {oi : Oper} {v : Value} (hi : ops[i]? = some oi) (hsel : ∀ (j : Nat) (o : Oper) cs b, ops[j]? = some o → o.op ≠ .select cs b) :
    ∀ (fuel : Nat) (listed : Array Bool) (a : Act),
      (∀ j oj, ops[j]? = some oj → j ≠ i → listed.getD j true = false → (∀ e ∈ oj.after, Region.binds md e = true → e.on ≠ i) → oi.apart ops oj = true) →
      i ∈ Region.ready md ops listed → YieldsP P md ops D cs i oi v a →
      wpAnyP P md ops D cs Q fuel (listed.setIfInBounds i true) (a.put oi.dst v) → wpAnyP P md ops D cs Q (fuel + 1) listed a := by
  intro fuel
  induction fuel with
  | zero =>
    intro listed a _ hr hy H
    refine ⟨fun h => (by rw [h] at hr; cases hr), fun j hj => ?_⟩
    by_cases hji : j = i
    · subst hji; exact hy.pOp hi H
    · have := ready_mono hj hji
      rw [H.1] at this
      cases this
  | succ fuel ih =>
    intro listed a hfree hr hy H
    refine ⟨fun h => (by rw [h] at hr; cases hr), fun j hj => ?_⟩
    by_cases hji : j = i
    · subst hji; exact hy.pOp hi H
    · have h1 := H.2 j (ready_mono hj hji)
      obtain ⟨hjun, oj, hoj, hall⟩ := mem_ready.1 hj
      have hnot : ∀ e ∈ oj.after, Region.binds md e = true → e.on ≠ i := fun e he hb heq => by
        have h1 := hall e he hb
        have h0 := (mem_ready.1 hr).1
        rw [heq] at h1
        rcases Nat.lt_or_ge i listed.size with h' | h'
        · simp [h'] at h0 h1; rw [h0] at h1; cases h1
        · simp [Array.getElem?_eq_none h'] at h1
      have h2 := pOp_put hoj (hfree j oj hoj hji hjun hnot) (fun cs b => hsel i oi cs b hi) (fun cs b => hsel j oj cs b hoj) hy h1
      have hfree' : ∀ k ok, ops[k]? = some ok → k ≠ i → (listed.setIfInBounds j true).getD k true = false →
          (∀ e ∈ ok.after, Region.binds md e = true → e.on ≠ i) → oi.apart ops ok = true := fun k ok hk hki hun hno => by
        refine hfree k ok hk hki ?_ hno
        by_cases hjk : j = k
        · subst hjk; exact hjun
        · rw [getD_set_ne true hjk] at hun; exact hun
      refine pOp_mono (fun a' h3 => ih (listed.setIfInBounds j true) a' hfree' (ready_mono hr (Ne.symm hji)) h3.1 ?_) h2
      rw [Array.setIfInBounds_comm _ _ hji]
      exact h3.2
/-- A world, and how far the chain has come. -/
structure S (D : Nat → World → Prop) where
  ph : Nat
  world : World
  is : D ph world
/-- An operation that reads, the same value in every phase; a call may leave another world of the phase. -/
def Oper.calmUpon (P : Program) (C : World → Prop) (w : World) (v : Value) : Result Next → Prop
  | .ok (.value u) w' => w' = w ∧ u = v
  | .ok .skip w' => w' = w ∧ v = undef
  | .ok (.enter f args) w' => w' = w ∧ Calls P f args w (fun e w'' => e = .returned v ∧ C w'')
  | _ => False
def Oper.calm (P : Program) (o : Oper) (a : Act) (D : Nat → World → Prop) (next : Act → Prop) : Prop := ∃ v, (∀ p : S D, Oper.calmUpon P (D p.ph) p.world v ((execOp a.eval o).run P p.world)) ∧ next (a.put o.dst v)
/-- The chain's operation number p. -/
def Oper.linkUpon (P : Program) (C : World → Prop) (w : World) (v : Value) : Result Next → Prop
  | .ok .skip w' => v = undef ∧ C w'
  | .ok (.enter f args) w' => w' = w ∧ Calls P f args w (fun e w'' => e = .returned v ∧ C w'')
  | _ => False
def Oper.link (P : Program) (o : Oper) (a : Act) (C C' : World → Prop) (next : Act → Prop) : Prop := ∃ v, (∀ w, C w → Oper.linkUpon P C' w v ((execOp a.eval o).run P w)) ∧ next (a.put o.dst v)
/-- The lexical walk. -/
def wpPh (P : Program) (ops : Array Oper) (D : Nat → World → Prop) (cs : List Nat) (Q : Act → Prop) : Nat → List Oper → Act → Prop
  | _, [], a => Q a
  | k, o :: rest, a =>
    match cs.idxOf? k with
    | some p => Region.wanted o (yielded ops a.tmps) = true ∧ Oper.link P o a (D p) (D (p + 1)) (wpPh P ops D cs Q (k + 1) rest)
    | none => if Region.wanted o (yielded ops a.tmps) then Oper.calm P o a D (wpPh P ops D cs Q (k + 1) rest) else wpPh P ops D cs Q (k + 1) rest (a.put o.dst undef)
theorem upto_other {p k : Nat} {L : Array Bool} (hk : k ∉ cs) (h : Upto cs p L) : Upto cs p (L.setIfInBounds k true) := by
  intro q c hq
  have hne : k ≠ c := fun e => hk (by rw [e]; exact List.mem_of_getElem? hq)
  rw [getD_set_ne false hne]; exact h q c hq
theorem steps_of_calm {k : Nat} {o : Oper} {a : Act} {v : Value} (hk : k ∉ cs) (h : ∀ p : S D, Oper.calmUpon P (D p.ph) p.world v ((execOp a.eval o).run P p.world)) : Steps P md ops D cs k o a v := by
  intro L w _ _ ⟨p, hp, hat, hd⟩
  have h1 := h ⟨p, w, hd⟩
  simp only at h1
  generalize (execOp a.eval o).run P w = r at *
  cases r with
  | ok n w' =>
    cases n <;> simp only [Oper.calmUpon] at h1 <;> simp only [upon]
    case value u => exact ⟨h1.1, h1.2, p, hp, upto_other hk hat, hd⟩
    case skip => exact ⟨h1.2, p, hp, upto_other hk hat, by rw [h1.1]; exact hd⟩
    case enter f args => exact ⟨h1.1, h1.2.mono fun e w'' ⟨he, hd'⟩ => ⟨he, p, hp, upto_other hk hat, hd'⟩⟩
  | halt x w' => simp only [Oper.calmUpon] at h1
theorem passes_of {k : Nat} (hk : k ∉ cs) : Passes md ops D cs k := fun L w _ _ ⟨p, hp, hat, hd⟩ => ⟨p, hp, upto_other hk hat, hd⟩
def chainOk (md : Region.Mode) (ops : Array Oper) (cs : List Nat) : Bool :=
  decide cs.Nodup && (List.range cs.length).all fun p => decide (p = 0) || Region.waitsFor md ops (cs.getD p 0) (cs.getD (p - 1) 0)
theorem steps_of_link {k p : Nat} {o : Oper} {a : Act} {v : Value} (hc : chainOk md ops cs = true) (hk : cs[p]? = some k)
    (h : ∀ w, D p w → Oper.linkUpon P (D (p + 1)) w v ((execOp a.eval o).run P w)) : Steps P md ops D cs k o a v := by
  intro L w hsz hr ⟨p', hp, hat, hd⟩
  simp only [chainOk, Bool.and_eq_true, decide_eq_true_eq] at hc
  obtain ⟨hnd, hall⟩ := hc
  have hpl : p < cs.length := (List.getElem?_eq_some_iff.1 hk).1
  obtain ⟨hun, ok, hok, hedges⟩ := mem_ready.1 hr
  have hkl : k < L.size := by rw [hsz]; exact (Array.getElem?_eq_some_iff.1 hok).1
  have h1 := hat p k hk
  rw [getD_both hun] at h1
  have h2 : ¬ p < p' := fun hlt => by rw [decide_eq_true hlt] at h1; cases h1
  have h3 : p ≤ p' := by
    by_cases h0 : p = 0
    · omega
    · have h4 := List.all_eq_true.1 hall p (List.mem_range.2 hpl)
      simp only [Bool.or_eq_true, decide_eq_true_eq] at h4
      rcases h4 with h4 | h4
      · omega
      · rw [List.getD_eq_getElem?_getD, hk, Option.getD_some] at h4
        obtain ⟨oj, hoj, e, he, hb, hon⟩ := Region.waitsFor_spec h4
        have : oj = ok := Option.some.inj (hoj.symm.trans hok)
        subst this
        have h5 := hedges e he hb
        have h6 : cs[p - 1]? = some (cs.getD (p - 1) 0) := by
          rw [List.getD_eq_getElem?_getD, List.getElem?_eq_getElem (show p - 1 < cs.length by omega)]; rfl
        have h7 := hat (p - 1) _ h6
        rw [← hon, h5] at h7
        have := of_decide_eq_true h7.symm
        omega
  obtain rfl : p' = p := by omega
  have hnew : Upto cs (p' + 1) (L.setIfInBounds k true) := by
    intro q c hq
    by_cases hck : k = c
    · subst hck
      have hqp : q = p' := by
        have hql : q < cs.length := (List.getElem?_eq_some_iff.1 hq).1
        have e1 : cs[q] = cs[p'] := by
          have a1 := List.getElem?_eq_some_iff.1 hq
          have a2 := List.getElem?_eq_some_iff.1 hk
          rw [a1.2, a2.2]
        have h10 := List.pairwise_iff_getElem.1 hnd
        rcases Nat.lt_trichotomy q p' with h11 | h11 | h11
        · exact absurd e1 (h10 q p' hql hpl h11)
        · exact h11
        · exact absurd e1.symm (h10 p' q hpl hql h11)
      subst hqp
      rw [decide_eq_true (by omega)]
      simp [hkl]
    · rw [getD_set_ne false hck, hat q c hq]
      have hqp : q ≠ p' := fun e => by subst e; rw [hk] at hq; exact hck (Option.some.inj hq)
      by_cases h8 : q < p'
      · rw [decide_eq_true h8, decide_eq_true (by omega)]
      · rw [decide_eq_false h8, decide_eq_false (by omega)]
  have h9 := h w hd
  generalize (execOp a.eval o).run P w = r at *
  cases r with
  | ok n w' =>
    cases n <;> simp only [Oper.linkUpon] at h9 <;> simp only [upon]
    case skip => exact ⟨h9.1, p' + 1, by omega, hnew, h9.2⟩
    case enter f args => exact ⟨h9.1, h9.2.mono fun e w'' ⟨he, hd'⟩ => ⟨he, p' + 1, by omega, hnew, hd'⟩⟩
  | halt x w' => simp only [Oper.linkUpon] at h9
def lexFromP (md : Region.Mode) (ops : Array Oper) (cs : List Nat) : Nat → Nat → Array Bool → Bool
  | 0, _, listed => (Region.ready md ops listed).isEmpty && cs.all fun c => listed.getD c false
  | fuel + 1, k, listed => (Region.ready md ops listed).contains k && Region.free md ops listed k && lexFromP md ops cs fuel (k + 1) (listed.setIfInBounds k true)
theorem idxOf_some {k p : Nat} (h : cs.idxOf? k = some p) : cs[p]? = some k := by
  have h1 := List.findIdx?_eq_some_iff_getElem.1 (by simpa [List.idxOf?] using h)
  obtain ⟨hp, h2, _⟩ := h1
  rw [List.getElem?_eq_getElem hp]
  simpa using h2
theorem idxOf_none {k : Nat} (h : cs.idxOf? k = none) : k ∉ cs := by
  intro hm
  have h1 : ∀ x ∈ cs, ¬ x = k := by simpa [List.idxOf?] using h
  exact h1 k hm rfl
theorem wpAnyP_lex {Q : Act → Prop} (hs : Region.noSelect ops = true) (hc : chainOk md ops cs = true) : ∀ (l : List Oper) (k : Nat) (listed : Array Bool) (a : Act), (∀ j, l[j]? = ops[k + j]?) →
    lexFromP md ops cs l.length k listed = true → wpPh P ops D cs Q k l a → wpAnyP P md ops D cs (fun L a => (cs.all fun c => L.getD c false) = true ∧ Q a) l.length listed a
  | [], _, _, _, _, hB, h => by
    simp only [List.length_nil, lexFromP, Bool.and_eq_true] at hB
    exact ⟨by simpa using hB.1, hB.2, h⟩
  | o :: l, k, listed, a, hl, hB, h => by
    have h0 : ops[k]? = some o := by simpa using (hl 0).symm
    simp only [List.length_cons, lexFromP, Bool.and_eq_true] at hB
    obtain ⟨⟨hr, hf⟩, hB'⟩ := hB
    have hst : pOp P md ops D cs k (wpPh P ops D cs Q (k + 1) l) a := by
      unfold pOp
      simp only [h0]
      unfold wpPh at h
      split at h
      · rename_i p hp
        obtain ⟨hw, v, h1, h2⟩ := h
        rw [if_pos hw]
        exact ⟨v, steps_of_link hc (idxOf_some hp) h1, h2⟩
      · rename_i hp
        have hk := idxOf_none hp
        split
        · rename_i hw
          rw [if_pos hw] at h
          obtain ⟨v, h1, h2⟩ := h
          exact ⟨v, steps_of_calm hk h1, h2⟩
        · rename_i hw
          rw [if_neg hw] at h
          exact ⟨passes_of hk, h⟩
    obtain ⟨v, hy, hK⟩ := yieldsP_of_pOp h0 hst
    exact wpAnyP_first h0 (Region.noSelect_spec hs) l.length listed a (Region.free_spec h0 hf) (by simpa using hr) hy
      (wpAnyP_lex hs hc l (k + 1) _ _ (fun j => by have := hl (j + 1); simpa [Nat.add_assoc, Nat.add_comm 1 j] using this) hB' hK)
def okB (md : Region.Mode) (ops : Array Oper) (cs : List Nat) : Bool := Region.noSelect ops && chainOk md ops cs && lexFromP md ops cs ops.size 0 (Array.replicate ops.size false)
/-- **The law.** What stands behind the region is asked in every world in which the chain has come to its end. -/
theorem wp_region_ph {id : Nat} {Q : Exit → Act → World → Prop} {a : Act} {w : World} {l : List Oper} (D : Nat → World → Prop) (cs : List Nat) (hm : P.follows .mixedOrders = true) (hB : okB .any l.toArray cs = true) (hD : D 0 w.drew)
    (h : wpPh P l.toArray D cs (fun a' => ∀ w', D cs.length w' → Q .normal a' w') 0 l a) : (Code.region id l.toArray true).wp P Q a w := by
  simp only [okB, Bool.and_eq_true] at hB
  obtain ⟨⟨hs, hc⟩, hlex⟩ := hB
  have h1 := wpAnyP_lex (md := .any) hs hc l 0 (Array.replicate l.toArray.size false) a (by simp) (by simpa using hlex) h
  refine wp_region_any hm ?_
  refine wpAny_of_ph (D := D) (cs := cs) (Q := fun L a => (cs.all fun c => L.getD c false) = true ∧ ∀ w', D cs.length w' → Q .normal a w') (fun L a w ⟨p, hp, hat, hd⟩ ⟨hall, hq⟩ => ?_) _ _ _ _ (by simp) ⟨0, Nat.zero_le _, fun q c _ => by rw [getD_replicate_false]; simp, hD⟩ (by simpa using h1)
  have hpe : p = cs.length := by
    rcases Nat.lt_or_ge p cs.length with h2 | h2
    · have h3 := hat p _ (List.getElem?_eq_getElem h2)
      have h4 := List.all_eq_true.1 hall _ (List.getElem_mem h2)
      rw [h4] at h3
      have := of_decide_eq_true h3.symm
      omega
    · omega
  subst hpe
  exact hq w hd
/-! the walk, a step at a time -/
end
attribute [go_sem] Oper.calm Oper.calmUpon Oper.link Oper.linkUpon
end Ph
namespace Row
open Go Go.RowKit
open Tab
section
variable {P : Program}
theorem run_loadVar_lies (w : World) (y : Addr) (ty : TypeId) (cs : List Value) (d : TypeDesc) (hc : Lies w y cs) (hu : P.underlying ty = some d) (hd : d.isRow = true) (hi : (P.info? ty).map (·.size) = some cs.length) :
    (loadVar ty y).run P w = .ok (.agg cs.toArray) w := by
  have hl : (loadCells y cs.length).run P w = .ok cs.toArray w := run_loadCells_list (P := P) w y cs (fun j v hv => hc j v hv)
  cases hq : P.info? ty with
  | none => simp [hq] at hi
  | some i =>
    have hs : i.size = cs.length := by simpa [hq] using hi
    have hagg : (isAgg ty).run P w = .ok true w := by
      unfold isAgg
      rw [Sem.run_bind, run_underlying hu w]
      cases d <;> simp_all
    simp [loadVar, Sem.run_bind, hagg, sizeOf, typeInfo, hq, hs, hl]
theorem wp_load_lies {op : Oper} {a : Act} {w : World} {K : Act → World → Prop} {Q : Exit → Act → World → Prop} (ty : TypeId) (x : Operand) (ho : op.op = .load ty x)
    (y : Addr) (hx : a.eval x = .pointer (some y)) (cs : List Value) (d : TypeDesc) (hc : Lies w y cs) (hu : P.underlying ty = some d) (hd : d.isRow = true) (hi : (P.info? ty).map (·.size) = some cs.length)
    (h : K (a.put op.dst (.agg cs.toArray)) w) : op.wp P a w K Q := by
  unfold Oper.wp execOp
  simp only [ho, hx, Instr.loadAt, Instr.sureAddr, Sem.run_bind, Sem.run_pure, Result.andThen_ok, run_loadVar_lies w y ty cs d hc hu hd hi]
  exact h
theorem wpList_load_lies {ops : Array Oper} {rest : List Oper} {op : Oper} {a : Act} {w : World} {Q : Exit → Act → World → Prop} (hgd : op.guard = none) (ty : TypeId) (x : Operand) (ho : op.op = .load ty x)
    (y : Addr) (hx : a.eval x = .pointer (some y)) (cs : List Value) (d : TypeDesc) (hc : Lies w y cs) (hu : P.underlying ty = some d) (hd : d.isRow = true) (hi : (P.info? ty).map (·.size) = some cs.length)
    (h : wpList P ops Q rest (a.put op.dst (.agg cs.toArray)) w) : wpList P ops Q (op :: rest) a w :=
  wpList_plain hgd fun _ hK => wp_load_lies ty x ho y hx cs d hc hu hd hi (hK _ _ h)
/-- Behind a guard that says yes. -/
theorem wpList_load_g {ops : Array Oper} {rest : List Oper} {op : Oper} {a : Act} {w : World} {Q : Exit → Act → World → Prop} (ty : TypeId) (x : Operand) (ho : op.op = .load ty x) (hw : Region.wanted op (yielded ops a.tmps) = true)
    (y : Addr) (hx : a.eval x = .pointer (some y)) (cs : List Value) (d : TypeDesc) (hc : Lies w y cs) (hu : P.underlying ty = some d) (hd : d.isRow = true) (hi : (P.info? ty).map (·.size) = some cs.length)
    (h : wpList P ops Q rest (a.put op.dst (.agg cs.toArray)) w) : wpList P ops Q (op :: rest) a w :=
  BigFrame.wpList_want hw fun _ hK => wp_load_lies ty x ho y hx cs d hc hu hd hi (hK _ _ h)
/-- A whole row into the block that was made last. -/
theorem wpList_store_new {ops : Array Oper} {rest : List Oper} {op : Oper} {a : Act} {w : World} {Q : Exit → Act → World → Prop} (hgd : op.guard = none) (ty : TypeId) (x y : Operand) (ho : op.op = .store ty x y)
    (w0 : World) (old cells : Array Value) (hw : w = w0.alloc (.cells old ty)) (hx : a.eval x = .pointer (some ⟨w0.heap.size, 0, none⟩)) (hy : a.eval y = .agg cells) (hi : (P.info? ty).map (·.size) = some cells.size) (hold : old.size = cells.size) (h1 : cells.all (·.oneCell') = true)
    (h : wpList P ops Q rest (a.put op.dst undef) (w0.alloc (.cells cells ty))) : wpList P ops Q (op :: rest) a w := by
  subst hw
  refine wpList_store_row hgd ty x y ho w0.heap.size cells hx hy ty old (heap_alloc_new w0 _) hi hold h1 ?_
  rw [World.setRow_alloc_new]
  exact h
theorem lies_new (w : World) (cs : Array Value) (t : TypeId) : Lies (w.alloc (.cells cs t)) ⟨w.heap.size, 0, none⟩ cs.toList := fun j v hv => by
  rw [Addr.add_mid, cell_of_row _ _ _ _ _ _ (heap_alloc_new w _), Nat.zero_add]
  simpa using hv
theorem lies_of_block {w : World} {g : Nat} {cs : Array Value} {t : TypeId} {fr : Nat × Nat} (hg : w.heap[g]? = some (.cells cs t fr)) : Lies w ⟨g, 0, none⟩ cs.toList := fun j v hv => by
  rw [Addr.add_mid, cell_of_row _ _ _ _ _ _ hg, Nat.zero_add]
  simpa using hv
/-! ### two rows compared -/
/-- A store of a row into the middle of a block known whole. -/
theorem run_storeAt_at (w : World) (g o : Nat) (t ty : TypeId) (cur cells : Array Value) (hg : w.heap[g]? = some (.cells cur t (0, 0))) (hi : (P.info? ty).map (·.size) = some cells.size) (hl : o + cells.size ≤ cur.size) (h1 : cells.all (·.oneCell') = true) :
    (Instr.storeAt ty (.pointer (some ⟨g, o, none⟩)) (.agg cells)).run P w = .ok () (w.setRow g (cur.toList.take o ++ cells.toList ++ cur.toList.drop (o + cells.size)).toArray) := by
  have := run_storeCells_at P g o t cells.toList 0 cur w hg (by simpa using hl) (fun v hv => (Array.all_eq_true_iff_forall_mem.1 h1) v (by simpa using hv))
  cases hq : P.info? ty with
  | none => simp [hq] at hi
  | some i =>
    have hs : cells.size = i.size := by simp [hq] at hi; omega
    simp only [Nat.add_zero, Array.length_toList] at this
    simp [Instr.storeAt, Instr.sureAddr, storeVar, sizeOf, typeInfo, hq, Value.cells, hs]
    rw [← hs]
    simpa using this
/-- The class of a region whose calls leave all that is older alone. -/
abbrev Old (w : World) : Nat → World → Prop := fun _ w' => Below w.heap.size w w'
theorem Old.drew (w : World) : Old w 0 w.drew := (Below.refl _ _).drew
end
end Row
namespace May
open Go.ChangeShapes Go.WideShapes Go.ChangeAt Go.RowKit
open Tab
theorem chain {a b c : World} (h : Below a.heap.size a b) (k : Below b.heap.size b c) : Below a.heap.size a c := h.trans (k.mono h.size)
theorem infoP : (Try.prog.info? 23).map (·.size) = some 13 := by kernel_rfl
theorem infoG : (Try.prog.info? 108).map (·.size) = some 2 := by kernel_rfl
theorem infoD : (Try.prog.info? 65).map (·.size) = some 7 := by kernel_rfl
theorem infoR : (Try.prog.info? 88).map (·.size) = some 11 := by kernel_rfl
theorem infoB : (Try.prog.info? 91).map (·.size) = some 2 := by kernel_rfl
end May
namespace May
open Go.ChangeShapes Go.WideShapes Go.ChangeAt Go.RowKit
open Tab
/-- Phases that lie at a block's head, as a row. -/
theorem phases_in {w : World} {g : Nat} {cs : Array Value} {t : TypeId} {fr : Nat × Nat} {T : Tab} {h : Hd} (hg : w.heap[g]? = some (.cells cs t fr)) (C : CellsOk T h cs) (hn : T.phases.length = 8) :
    RowOf 13 Ph.cells w ⟨some ⟨g, 0, none⟩, 8⟩ T.phases := by
  refine .inr ⟨_, rfl, by rw [hn]; exact Nat.le_refl _, (show 8 ≤ maxLen by decide), fun i v hv j u hu => ?_⟩
  rw [add_two, Addr.add_mid, Nat.zero_add, Nat.mul_comm]
  exact range_of hg (13 * i) 13 _ (C.phase i v hv) j u hu
/-- What a walk over a boxed table holds on to. -/
structure St (w : World) (N : Nat) (cs : Array Value) (h : Hd) (T : Tab) (W : World) : Prop where
  bel : Below w.heap.size w W
  blk : W.heap[N]? = some (.cells cs 31 (0, 0))
  tab : IsTab W h T
  le : w.heap.size ≤ N
theorem St.step {w W W' : World} {N : Nat} {cs : Array Value} {h : Hd} {T : Tab} (k : St w N cs h T W) (hb : Below W.heap.size W W') : St w N cs h T W' :=
  ⟨chain k.bel hb, by rw [hb.block N (Array.getElem?_eq_some_iff.1 k.blk).1]; exact k.blk, k.tab.below hb, k.le⟩
theorem St.cell {w W : World} {N : Nat} {cs : Array Value} {h : Hd} {T : Tab} (k : St w N cs h T W) {o : Nat} {v : Value} (hv : cs[o]? = some v) : W.cell? ⟨N, o, none⟩ = some v := by
  rw [cell_of_row _ _ _ _ _ _ k.blk]; exact hv
theorem St.box {w : World} {cs : Array Value} {h : Hd} {T : Tab} (k : IsTab w h T) : St w w.heap.size cs h T (w.alloc (.cells cs 31)) :=
  ⟨(Below.refl _ _).alloc (Nat.le_refl _) _, heap_alloc_new _ _, k.below ((Below.refl _ _).alloc (Nat.le_refl _) _), Nat.le_refl _⟩
end May
namespace May
open Go.ChangeShapes Go.WideShapes Go.ChangeAt Go.RowKit
open Tab
def GAll (l : List Gr) : Prop := l.all (fun v => groupMay v.data) = true
theorem GAll.step {l : List Gr} {k : Nat} {v : Gr} (h : l[k]? = some v) (hk : GAll (l.take k)) (hv : groupMay v.data = true) : GAll (l.take (k + 1)) := all_step (f := fun v : Gr => groupMay v.data) h hk hv
theorem infoT : (Try.prog.info? 31).map (·.size) = some 131 := by kernel_rfl
end May
namespace Copy
open Go Go.RowKit
open Tab
section
variable {P : Program}
end
/-! ### a list's elements as one row -/
section
variable {α : Type} {n : Nat} {enc : α → List Value}
end
end Copy
namespace Clone
open Go.ChangeShapes Go.WideShapes Go.ChangeAt Go.RowKit
open Tab Copy
open May (chain infoP infoG infoD infoR infoB)
end Clone
namespace Owned
open Go Go.RowKit
open Tab Copy
structure Blk where
  at_ : Nat
  cells : List Value
  type : TypeId
def Own (B : Nat) (w : World) (L : List Blk) : Prop := (L.map Blk.at_).Nodup ∧ ∀ x ∈ L, B ≤ x.at_ ∧ w.heap[x.at_]? = some (.cells x.cells.toArray x.type (0, 0))
variable {B : Nat} {w w' : World} {L M : List Blk} {x : Blk}
theorem Own.nil : Own B w [] := ⟨by simp, fun x h => by simp at h⟩
theorem Own.get (h : Own B w L) (hx : x ∈ L) : w.heap[x.at_]? = some (.cells x.cells.toArray x.type (0, 0)) := (h.2 x hx).2
theorem Own.base (h : Own B w L) (hx : x ∈ L) : B ≤ x.at_ := (h.2 x hx).1
theorem Own.lt (h : Own B w L) (hx : x ∈ L) : x.at_ < w.heap.size := (Array.getElem?_eq_some_iff.1 (h.get hx)).1
theorem Own.step (h : Own B w L) (hb : Below w.heap.size w w') : Own B w' L := ⟨h.1, fun x hx => ⟨h.base hx, by rw [hb.block _ (h.lt hx)]; exact h.get hx⟩⟩
/-- A new block. -/
theorem Own.add (h : Own B w L) (hb : Below w.heap.size w w') {g : Nat} {cs : List Value} {t : TypeId} (hg : w'.heap[g]? = some (.cells cs.toArray t (0, 0))) (hn : w.heap.size ≤ g) (hB : B ≤ w.heap.size) : Own B w' (⟨g, cs, t⟩ :: L) := by
  refine ⟨List.nodup_cons.2 ⟨fun hm => ?_, h.1⟩, fun y hy => ?_⟩
  · obtain ⟨y, hy, e⟩ := List.mem_map.1 hm
    have := h.lt hy
    have e' : y.at_ = g := e
    omega
  · rcases List.mem_cons.1 hy with rfl | hy
    · exact ⟨Nat.le_trans hB hn, hg⟩
    · exact (h.step hb).2 y hy
/-- The first block is written. -/
theorem Own.write (h : Own B w (x :: L)) {cs : List Value} (hg : w'.heap[x.at_]? = some (.cells cs.toArray x.type (0, 0))) (ho : ∀ j, j ≠ x.at_ → w'.heap[j]? = w.heap[j]?) : Own B w' (⟨x.at_, cs, x.type⟩ :: L) := by
  have hx := (List.nodup_cons.1 h.1).1
  refine ⟨List.nodup_cons.2 ⟨hx, (List.nodup_cons.1 h.1).2⟩, fun y hy => ?_⟩
  rcases List.mem_cons.1 hy with rfl | hy
  · exact ⟨(h.base (x := x) (List.mem_cons_self ..) : B ≤ x.at_), hg⟩
  · have hne : y.at_ ≠ x.at_ := fun e => hx (List.mem_map.2 ⟨y, hy, e⟩)
    exact ⟨h.base (List.mem_cons_of_mem _ hy), by rw [ho _ hne]; exact h.get (List.mem_cons_of_mem _ hy)⟩
theorem Own.cell (h : Own B w L) (hx : x ∈ L) (i : Nat) : w.cell? ⟨x.at_, i, none⟩ = x.cells[i]? := by
  rw [cell_of_row _ _ _ _ _ _ (h.get hx)]; simp
theorem Own.frozen (h : Own B w L) (hx : x ∈ L) (i : Nat) : w.frozen? ⟨x.at_, i, none⟩ = false := frozen_of_row _ _ _ _ _ (h.get hx)
/-- What is below B stays as it is when one's own is written. -/
theorem below_write {a : World} (hb : Below B a w) {g i : Nat} (hg : B ≤ g) (v : Value) : Below B a (w.setCell ⟨g, i, none⟩ v) := hb.setCell (p := ⟨g, i, none⟩) hg v
end Owned
namespace Clone
open Go.ChangeShapes Go.WideShapes Go.ChangeAt Go.RowKit
open Tab Copy Owned
open May (chain infoP infoG infoD infoR infoB infoT)
/-- A group whose rows are blocks of their own. -/
structure NG where
  r0 : List Int
  r1 : List Int
  b0 : Nat
  b1 : Nat
def NG.gr (g : NG) : Gr := ⟨g.r0, g.r1, ⟨some ⟨g.b0, 0, none⟩, g.r0.length⟩, ⟨some ⟨g.b1, 0, none⟩, g.r1.length⟩⟩
def NG.blks (g : NG) : List Blk := [⟨g.b0, g.r0.flatMap (fun n => [I n]), 3⟩, ⟨g.b1, g.r1.flatMap (fun n => [I n]), 3⟩]
abbrev at0 (g n : Nat) : Sl := ⟨some ⟨g, 0, none⟩, n⟩
/-- Where a clone's parts lie. -/
def own (T : Tab) (ns : List NG) (G D R S : Nat) : List Blk :=
  ⟨G, (ns.map NG.gr).flatMap Gr.cells, 108⟩ :: ⟨D, T.dets.flatMap Det.cells, 65⟩ :: ⟨R, T.rails.flatMap Rl.cells, 88⟩ :: ⟨S, T.buses.flatMap Bs.cells, 91⟩ :: ns.flatMap NG.blks
def hd (T : Tab) (G D R S : Nat) : Hd := ⟨at0 G T.groups.length, at0 D T.dets.length, at0 R T.rails.length, at0 S T.buses.length⟩
section
variable {T : Tab} {ns : List NG} {G D R S : Nat}
end
/-! ### a table's cells, with a list moved -/
structure Eights (T : Tab) : Prop where
  p : T.phases.length = 8
  c : T.conflict.length = 8
  f : T.flash.length = 8
theorem Eights.tab {T : Tab} (k : Eights T) (h : Hd) (w : World) : CellsOk T h (T.cells h).toArray := by
  have h0 : IsTab w ⟨⟨none, 0⟩, ⟨none, 0⟩, ⟨none, 0⟩, ⟨none, 0⟩⟩ { T with groups := [], dets := [], rails := [], buses := [] } :=
    ⟨k.p, k.c, k.f, ⟨[], rfl, RowOf.nil w, fun g hg => by simp at hg⟩, RowOf.nil w, RowOf.nil w, RowOf.nil w⟩
  have := cells_ok h0
  obtain ⟨p0, p1, p2, p3, p4, p5, p6, p7, hp⟩ := eight k.p
  obtain ⟨c0, c1, c2, c3, c4, c5, c6, c7, hc⟩ := eight k.c
  obtain ⟨f0, f1, f2, f3, f4, f5, f6, f7, hf⟩ := eight k.f
  clear k
  obtain ⟨phases, groups, conflict, dets, rails, buses, extend, budget, start, revert, least, flash, window, share⟩ := T
  simp only at hp hc hf
  subst hp hc hf
  clear this h0
  constructor
  all_goals try rfl
  case one => simp [Tab.cells, Ph.cells, Value.oneCell']
  intro i p hp
  match i, hp with
  | 0, hp | 1, hp | 2, hp | 3, hp | 4, hp | 5, hp | 6, hp | 7, hp =>
    obtain rfl := Option.some.inj hp
    rfl
  | i + 8, hp => cases hp
/-- The zero table. -/
def zPh : Ph := ⟨false, 0, 0, 0, 0, 0, 0, 0, 0, 0, 0, false, false⟩
def zTab : Tab := ⟨List.replicate 8 zPh, [], List.replicate 8 0, [], [], [], 0, 0, 0, 0, 0, List.replicate 8 0, 0, 0⟩
def zHd : Hd := ⟨⟨none, 0⟩, ⟨none, 0⟩, ⟨none, 0⟩, ⟨none, 0⟩⟩
theorem info31 : (Try.prog.info? 31).map (fun i => (i.zero, i.size)) = some (some (.agg (zTab.cells zHd).toArray), 131) := by kernel_rfl
theorem z_is (w : World) : IsTab w zHd zTab := ⟨rfl, rfl, rfl, ⟨[], rfl, RowOf.nil w, fun g hg => by simp at hg⟩, RowOf.nil w, RowOf.nil w, RowOf.nil w⟩
end Clone
namespace Clone
open Go.ChangeShapes Go.WideShapes Go.ChangeAt Go.RowKit
open Tab Copy Owned
open May (chain infoP infoG infoD infoR infoB infoT take_succ')
/-- The phases of the region that fills one group. -/
def D5 (w : World) (B M : Nat) (L0 L1 L2 L3 : List Blk) (q : Nat) (w' : World) : Prop :=
  Below B w w' ∧ match q with
    | 0 => Owned.Own B w' L0 ∧ w'.heap.size = M + 1
    | 1 => Owned.Own B w' L1 ∧ w'.heap.size = M + 1 + 1
    | 2 => Owned.Own B w' L2 ∧ w'.heap.size = M + 1 + 1 + 1
    | _ => Owned.Own B w' L3
theorem D5.get {w w' : World} {B M q : Nat} {L0 L1 L2 L3 : List Blk} {x : Blk} (h : D5 w B M L0 L1 L2 L3 q w') (h0 : x ∈ L0) (h1 : x ∈ L1) (h2 : x ∈ L2) (h3 : x ∈ L3) : w'.heap[x.at_]? = some (.cells x.cells.toArray x.type (0, 0)) := by
  match q, h with
  | 0, ⟨_, h, _⟩ => exact h.get h0
  | 1, ⟨_, h, _⟩ => exact h.get h1
  | 2, ⟨_, h, _⟩ => exact h.get h2
  | _ + 3, ⟨_, h⟩ => exact h.get h3
end Clone
namespace OnS
open Go.ChangeShapes Go.WideShapes Go.ChangeAt Go.RowKit
open Tab Gath RefS
open May (St phases_in infoP)
/-- A row, as set.Of's contract wants it. -/
theorem row_of_int {w : World} {a : Option Addr} {cap : Nat} {L : List Int} (h : IntRow w ⟨a, cap⟩ L) : RefS.Row w a L := by
  have hl := h.len
  refine ⟨by omega, ?_⟩
  by_cases h0 : L = []
  · exact .inl h0
  · have hp : 0 < L.length := List.length_pos_iff.2 h0
    obtain ⟨x, hx, _⟩ := IntRow.at h (List.getElem?_eq_getElem hp)
    refine .inr ⟨x, hx, fun i hi => ?_⟩
    obtain ⟨y, hy, hc⟩ := IntRow.at h (List.getElem?_eq_getElem hi)
    obtain rfl : x = y := Option.some.inj (hx.symm.trans hy)
    rw [hc, List.getD_eq_getElem?_getD, List.getElem?_eq_getElem hi]
    rfl
def onTo : Nat → List Ph → List Int
  | _, [] => []
  | i, p :: l => (if p.on then [(i : Int)] else []) ++ onTo (i + 1) l
theorem onTo_append : ∀ (i : Nat) (l m : List Ph), onTo i (l ++ m) = onTo i l ++ onTo (i + l.length) m
  | i, [], m => rfl
  | i, p :: l, m => by
    rw [List.cons_append, onTo, onTo, onTo_append (i + 1) l m, List.append_assoc, List.length_cons, show i + 1 + l.length = i + (l.length + 1) by omega]
theorem on_step {l : List Ph} {q : Nat} {p : Ph} (h : l[q]? = some p) : onTo 0 (l.take (q + 1)) = onTo 0 (l.take q) ++ (if p.on then [(q : Int)] else []) := by
  have hi : q < l.length := (List.getElem?_eq_some_iff.1 h).1
  rw [PlaceM.take_succ h, onTo_append, List.length_take, Nat.min_eq_left (by omega), Nat.zero_add]
  simp [onTo]
theorem on_len : ∀ (i : Nat) (l : List Ph), (onTo i l).length ≤ l.length
  | i, [] => Nat.le_refl _
  | i, p :: l => by
    rw [onTo, List.length_append, List.length_cons]
    have := on_len (i + 1) l
    split <;> simp <;> omega
/-- The phases that are On, and their set. -/
def onL (T : Tab) : List Int := onTo 0 T.phases
def onS (T : Tab) : Nat := SetM.of (onL T)
abbrev OwnsI (B : Nat) (w : World) (v : Value) (l : List Int) : Prop := Owns (fun n => [I n]) 1 B w 3 v l
theorem on_any (T : Tab) (h : Hd) (w : World) (ht : IsTab w h T) :
    Calls Try.prog 19 #[.agg (T.cells h).toArray] w fun e w' => e = .returned (.int .i64 (onS T : Nat)) ∧ Below w.heap.size w w' := by
  have C := Lib.hid (cells_ok ht)
  generalize (T.cells h).toArray = cs at C ⊢
  have hsz := C.out.size
  have L8 := Lib.hid ht.ph
  have S0 := Lib.hid (St.box (cs := cs) ht)
  obtain ⟨i0, hi, hz0, hz1, hz2⟩ := info_parts info3
  have RS : Hid ((onS T : Nat) = SetM.of (onTo 0 T.phases)) := Lib.hid rfl
  generalize onS T = r at RS ⊢
  clear ht
  go_enter Try.func19, Try.ntmps19
  go_upto_region 1 with fail
  generalize w.alloc (.cells cs 31) = w1 at S0 ⊢
  clear hsz
  go_wp2_with fail
  go_loopw [3, 4] (fun v g wr => ∃ q : Nat, q ≤ 8 ∧ g = .int .i64 q ∧ OwnsI w1.heap.size wr v (onTo 0 (T.phases.take q)) ∧ Below w1.heap.size w1 wr) (fun _ g _ => 8 - (intOf g).toNat)
  case atStart => exact ⟨0, by omega, rfl, Owns.nil, Below.refl _ _⟩
  case round =>
    obtain ⟨q, hq, rfl, hown, hbel⟩ := hrel
    have HO := Lib.hid hown
    have HB := Lib.hid hbel
    clear hown hbel
    have S1 := Lib.hid (S0.out.step HB.out)
    by_cases hlt : q < 8
    · have hv : T.phases[q]? = some (T.phases[q]'(by rw [L8.out]; exact hlt)) := List.getElem?_eq_getElem _
      generalize T.phases[q]'(by rw [L8.out]; exact hlt) = u at hv
      obtain ⟨x, hx, hc⟩ := (phases_in S1.out.blk C.out L8.out).at hv
      obtain rfl := Option.some.inj hx
      have c0 : wr.cell? ⟨w.heap.size, q * 13, none⟩ = some (.bool u.on) := by
        have := hc 0 _ rfl
        rwa [Addr.add_mid, Nat.zero_add, Tab.add_zero] at this
      have HS := Lib.hid (on_step hv)
      have hlen : (onTo 0 (T.phases.take q)).length ≤ 8 := by have := on_len 0 (T.phases.take q); rw [List.length_take] at this; omega
      have hsz := HB.out.size
      clear hv hc hx
      generalize onTo 0 (T.phases.take q) = P1 at HO HS hlen
      cases hon : u.on
      · rw [hon] at c0 HS
        have HS2 : Hid (onTo 0 (T.phases.take (q + 1)) = P1) := Lib.hid (by rw [HS.out]; simp)
        go_wp2
        go_roundw
        case rel => exact ⟨q + 1, by omega, by go_num, by rw [HS2.out]; exact HO.out, HB.out⟩
        case measure => simp [intOf]; omega
      · rw [hon] at c0 HS
        have HS2 : Hid (onTo 0 (T.phases.take (q + 1)) = P1 ++ [(q : Int)]) := Lib.hid (by rw [HS.out]; simp)
        have hown2 : wr.ownsRow w1.heap.size 3 1 u3 P1.length (P1.flatMap (fun n => [I n])) := HO.out
        clear HO
        go_wp2_with (at_builtin; refine wpList_append_own _ rfl _ _ 39 rfl w1.heap.size 3 i0 (.int .i64 0) 1 8 Try.underlying39 hi hz0 hz1 hz2 rfl (by decide) _ _ _ rfl (hown2.alloc _) ⟨wr.heap.size, 0, none⟩ 1 1 [.int .i64 (q : Int)] rfl rfl ?c1 ?c2 ?c3 ?c4 ?c5 ?_)
        case c2 => rfl
        case c3 => unfold maxLen; omega
        case c4 => omega
        case c5 => omega
        intro v' w2 hown' hgrow hnil'
        have HB2 : Hid (Below w1.heap.size w1 w2) := Lib.hid ((HB.out.alloc hsz _).grown hgrow (by simp; omega) fun m hm => (show OwnsI w1.heap.size wr u3 P1 from hown2).blk m hm)
        have HO2 : Hid (OwnsI w1.heap.size w2 v' (P1 ++ [(q : Int)])) := Lib.hid (Owns.snoc hown')
        clear hown' hgrow hown2 hnil'
        go_wp2
        go_roundw
        case rel => exact ⟨q + 1, by omega, by go_num, by rw [HS2.out]; exact HO2.out, HB2.out⟩
        case measure => simp [intOf]; omega
    · have HE : Hid (onTo 0 (T.phases.take q) = onTo 0 T.phases) := Lib.hid (by rw [List.take_of_length_le (by rw [L8.out]; omega)])
      obtain ⟨⟨sa, sc⟩, hs, hrow⟩ := HO.out.row (enc := fun n => [I n]) (fun _ => rfl)
      rw [HE.out] at hs hrow
      have HR := Lib.hid (row_of_int hrow)
      have HF : Hid (Below w.heap.size w wr) := Lib.hid (S1.out.bel)
      clear hrow HE
      subst hs
      generalize onTo 0 T.phases = P2 at RS HR ⊢
      show Code.wp _ _ _ _ _
      rw [show (Sl.val ⟨sa, sc⟩ P2.length) = .slice sa P2.length sc from rfl]
      go_wp2_with fail
      refine (rof_any sa sc P2 _ HR.out).mono ?_
      rintro e w' ⟨rfl, rfl⟩
      rw [← RS.out]
      go_wp2
      go_ret
      exact ⟨rfl, HF.out⟩
end OnS
end Go.Proofs.Ytneaomdgjlmleaa
