/- 10 texts in one file, in build order. -/
import Derived.Laws.BitsLemmas
import Derived.Deep.MidRow
import Derived.Below
import Derived.Test.YtambpohphbdhcaaRows
import Derived.OwnWalk
import Derived.WalkKit
import Derived.ProofKit
import Derived.IntWalk
import Derived.Lib.Hide
import Derived.LoopTactic
import Derived.BigQuiet
import Derived.Deep.QuietTactic
import Derived.Still
import Derived.StillTail
import Derived.Deep.WholeRow
import Derived.BigFrame
import Derived.Laws.StructEq
import Derived.Laws.CopyRow
import Ieee.Arith
import Derived.Laws.FloatBits
import Derived.Laws.FloatArith
import Derived.WalkLawsBesides
set_option linter.unusedVariables false
set_option linter.unusedSimpArgs false
set_option linter.unusedSectionVars false
set_option maxHeartbeats 8000000
set_option maxRecDepth 100000
namespace Go.Proofs.Ytambpohphbdhcaa
namespace SetM
/-- The lowest eight bits. -/
def low (s : Int) : Nat := (s % 256).toNat
theorem low_lt (s : Int) : low s < 256 := by unfold low; omega
/-- Is p a phase of s? -/
def has (s p : Int) : Bool := decide (0 ≤ p) && (low s).testBit p.toNat
/-- The set of p alone: empty if p is not a phase. -/
def bit (p : Int) : Nat := if 0 ≤ p ∧ p < 8 then 2 ^ p.toNat else 0
def withN (s p : Int) : Nat := low s ||| bit p
theorem toNat_low (s : Int) : (BitVec.ofInt 64 s).toNat % 256 = low s := by
  rw [BitVec.toNat_ofInt]
  unfold low
  show (s % ((18446744073709551616 : Nat) : Int)).toNat % 256 = _
  omega
theorem toNat_ofNat (b : Nat) (h : b < 256) : (BitVec.ofInt 64 (b : Int)).toNat = b := by
  rw [BitVec.toNat_ofInt]
  show ((b : Int) % ((18446744073709551616 : Nat) : Int)).toNat = _
  omega
theorem wrap_small (n : Nat) (h : n < 256) : IntKind.i64.wrap (n : Int) = n := by
  rw [IntKind.wrap_i64]; omega
theorem and_low (s : Int) (b : Nat) (h : b < 256) : bits .and .i64 s (b : Int) = ((low s &&& b : Nat) : Int) := by
  show IntKind.i64.wrap ((BitVec.ofInt 64 s &&& BitVec.ofInt 64 (b : Int)).toNat : Nat) = _
  rw [BitVec.toNat_and, toNat_ofNat b h]
  have h1 : (BitVec.ofInt 64 s).toNat &&& b < 256 := Nat.and_lt_two_pow (n := 8) _ h
  have h2 : ((BitVec.ofInt 64 s).toNat &&& b) % 2 ^ 8 = _ := Nat.and_mod_two_pow
  rw [wrap_small _ h1, ← toNat_low s]
  rw [Nat.mod_eq_of_lt h1, Nat.mod_eq_of_lt (show b < 2 ^ 8 from h)] at h2
  rw [h2]
theorem bit_lt (p : Int) : bit p < 256 := by
  unfold bit
  split
  · rename_i h
    have : 2 ^ p.toNat ≤ 2 ^ 7 := Nat.pow_le_pow_right (by decide) (by omega)
    omega
  · decide
theorem test_high (m k : Nat) (h : m < 256) (hk : 8 ≤ k) : m.testBit k = false :=
  Nat.testBit_lt_two_pow (Nat.lt_of_lt_of_le h (Nat.pow_le_pow_right (n := 2) (by decide) hk : 2 ^ 8 ≤ 2 ^ k))
theorem test_bit (p : Int) (k : Nat) : (bit p).testBit k = decide ((k : Int) = p ∧ k < 8) := by
  unfold bit
  split
  · rename_i h
    rw [Nat.testBit_two_pow]
    rw [Bool.eq_iff_iff, decide_eq_true_iff, decide_eq_true_iff]
    omega
  · rename_i h
    rw [Nat.zero_testBit]
    symm
    rw [decide_eq_false_iff_not]
    omega
theorem has_neg (s p : Int) (h : p < 0) : has s p = false := by unfold has; rw [decide_eq_false (by omega)]; rfl
theorem has_big (s p : Int) (h : 8 ≤ p) : has s p = false := by
  unfold has; rw [test_high _ _ (low_lt s) (by omega), Bool.and_false]
theorem has_nat (s : Int) (k : Nat) : has s k = (low s).testBit k := by unfold has; simp
/-- The document's own way to ask it. -/
theorem has_shr (s : Int) (k : Nat) (h : k < 8) : bits .and .i64 (s / 2 ^ k) 1 = if has s k then 1 else 0 := by
  have h1 := and_low (s / 2 ^ k) 1 (by decide)
  have h2 : low (s / 2 ^ k) &&& 1 = low s / 2 ^ k % 2 := by
    rw [Nat.and_one_is_mod]
    have h3 : k = 0 ∨ k = 1 ∨ k = 2 ∨ k = 3 ∨ k = 4 ∨ k = 5 ∨ k = 6 ∨ k = 7 := by omega
    unfold low
    rcases h3 with rfl | rfl | rfl | rfl | rfl | rfl | rfl | rfl
    all_goals (simp only [Nat.reducePow, Int.reducePow]; omega)
  rw [h2] at h1
  rw [has_nat, Nat.testBit_eq_decide_div_mod_eq]
  rw [show ((1 : Nat) : Int) = 1 from rfl] at h1
  rw [h1]
  have h4 : low s / 2 ^ k % 2 < 2 := Nat.mod_lt _ (by decide)
  split <;> rename_i h5
  · rw [of_decide_eq_true h5]; rfl
  · have : low s / 2 ^ k % 2 = 0 := by simp at h5; omega
    rw [this]; rfl
/-- The phases below k. -/
def upto (s : Int) (k : Nat) : List Int := ((List.range k).filter fun j => (low s).testBit j).map Int.ofNat
def list (s : Int) : List Int := upto s 8
theorem upto_zero (s : Int) : upto s 0 = [] := rfl
theorem upto_hit (s : Int) (k : Nat) (h : has s k = true) : upto s (k + 1) = upto s k ++ [(k : Int)] := by
  rw [has_nat] at h
  unfold upto; rw [List.range_succ, List.filter_append, List.map_append]; simp [h]
theorem upto_miss (s : Int) (k : Nat) (h : has s k = false) : upto s (k + 1) = upto s k := by
  rw [has_nat] at h
  unfold upto; rw [List.range_succ, List.filter_append, List.map_append]; simp [h]
theorem upto_len (s : Int) (k : Nat) : (upto s k).length ≤ k := by
  unfold upto; rw [List.length_map]; have := List.length_filter_le (fun j => (low s).testBit j) (List.range k); simpa using this
theorem list_len (s : Int) : (list s).length ≤ 8 := upto_len s 8
theorem mem_list (s p : Int) : p ∈ list s ↔ has s p = true := by
  unfold list upto
  rw [List.mem_map]
  constructor
  · rintro ⟨j, hj, rfl⟩
    rw [List.mem_filter] at hj
    rw [show Int.ofNat j = (j : Int) from rfl, has_nat]; exact hj.2
  · intro h
    have h0 : 0 ≤ p := by
      by_cases h1 : 0 ≤ p
      · exact h1
      · rw [has_neg s p (by omega)] at h; cases h
    have h8 : p < 8 := by
      by_cases h1 : p < 8
      · exact h1
      · rw [has_big s p (by omega)] at h; cases h
    obtain ⟨k, rfl⟩ := Int.eq_ofNat_of_zero_le h0
    rw [has_nat] at h
    have h9 : k < 8 := by omega
    exact ⟨k, List.mem_filter.2 ⟨List.mem_range.2 h9, h⟩, rfl⟩
theorem list_bd (s p : Int) (h : p ∈ list s) : 0 ≤ p ∧ p < 8 := by
  unfold list upto at h
  obtain ⟨j, hj, rfl⟩ := List.mem_map.1 h
  have := List.mem_range.1 (List.mem_filter.1 hj).1
  rw [show Int.ofNat j = (j : Int) from rfl]
  omega
/-- The set of a list. -/
def of (l : List Int) : Nat := l.foldl (fun m p => m ||| bit p) 0
theorem of_snoc (l : List Int) (p : Int) : of (l ++ [p]) = of l ||| bit p := by unfold of; rw [List.foldl_append]; rfl
theorem fold_lt (l : List Int) (m : Nat) (h : m < 256) : l.foldl (fun m p => m ||| bit p) m < 256 := by
  induction l generalizing m with
  | nil => exact h
  | cons p l ih => exact ih _ (Nat.or_lt_two_pow (n := 8) h (bit_lt p))
theorem of_lt (l : List Int) : of l < 256 := fold_lt l 0 (by decide)
theorem fold_test (l : List Int) (m k : Nat) : (l.foldl (fun m p => m ||| bit p) m).testBit k = (m.testBit k || decide ((k : Int) ∈ l ∧ k < 8)) := by
  induction l generalizing m with
  | nil => simp
  | cons p l ih =>
    rw [List.foldl_cons, ih, Nat.testBit_or, test_bit, Bool.or_assoc]
    congr 1
    rw [Bool.eq_iff_iff, Bool.or_eq_true, decide_eq_true_iff, decide_eq_true_iff, decide_eq_true_iff, List.mem_cons]
    constructor
    · rintro (⟨a, b⟩ | ⟨a, b⟩)
      · exact ⟨.inl a, b⟩
      · exact ⟨.inr a, b⟩
    · rintro ⟨a | a, b⟩
      · exact .inl ⟨a, b⟩
      · exact .inr ⟨a, b⟩
theorem of_test (l : List Int) (k : Nat) : (of l).testBit k = decide ((k : Int) ∈ l ∧ k < 8) := by
  unfold of; rw [fold_test, Nat.zero_testBit, Bool.false_or]
theorem eq_of {m m' : Nat} (h : m < 256) (h' : m' < 256) (e : ∀ k, k < 8 → m.testBit k = m'.testBit k) : m = m' := by
  apply Nat.eq_of_testBit_eq
  intro k
  by_cases hk : k < 8
  · exact e k hk
  · rw [test_high m k h (by omega), test_high m' k h' (by omega)]
/-- The document's own way to make it: phase by phase. -/
def refOf (l : List Int) : Nat → Nat
  | 0 => 0
  | k + 1 => if (k : Int) ∈ l then refOf l k ||| 2 ^ k else refOf l k
theorem refOf_hit (l : List Int) (k : Nat) (h : (k : Int) ∈ l) : refOf l (k + 1) = refOf l k ||| 2 ^ k := by rw [refOf, if_pos h]
theorem refOf_miss (l : List Int) (k : Nat) (h : ¬ (k : Int) ∈ l) : refOf l (k + 1) = refOf l k := by rw [refOf, if_neg h]
theorem refOf_lt (l : List Int) (k : Nat) : refOf l k < 2 ^ k := by
  induction k with
  | zero => exact Nat.one_pos
  | succ k ih =>
    have h1 : refOf l k < 2 ^ (k + 1) := Nat.lt_of_lt_of_le ih (Nat.pow_le_pow_right (by decide) (by omega))
    rw [refOf]
    split
    · exact Nat.or_lt_two_pow h1 (Nat.pow_lt_pow_right (by decide) (by omega))
    · exact h1
theorem refOf_test (l : List Int) (k j : Nat) : (refOf l k).testBit j = decide (j < k ∧ (j : Int) ∈ l) := by
  induction k with
  | zero => simp [refOf]
  | succ k ih =>
    by_cases h : (k : Int) ∈ l
    · rw [refOf_hit l k h, Nat.testBit_or, ih, Nat.testBit_two_pow, Bool.eq_iff_iff, Bool.or_eq_true, decide_eq_true_iff, decide_eq_true_iff, decide_eq_true_iff]
      constructor
      · rintro (⟨a, b⟩ | rfl)
        · exact ⟨by omega, b⟩
        · exact ⟨by omega, h⟩
      · rintro ⟨a, b⟩
        by_cases e : k = j
        · exact .inr e
        · exact .inl ⟨by omega, b⟩
    · rw [refOf_miss l k h, ih, Bool.eq_iff_iff, decide_eq_true_iff, decide_eq_true_iff]
      constructor
      · rintro ⟨a, b⟩
        exact ⟨by omega, b⟩
      · rintro ⟨a, b⟩
        have : j ≠ k := by rintro rfl; exact h b
        exact ⟨by omega, b⟩
theorem refOf_eq (l : List Int) : refOf l 8 = of l := by
  refine eq_of (refOf_lt l 8) (of_lt l) fun k hk => ?_
  rw [refOf_test, of_test, Bool.eq_iff_iff, decide_eq_true_iff, decide_eq_true_iff, and_comm]
theorem list_test (s : Int) (k : Nat) (hk : k < 8) : decide ((k : Int) ∈ list s ∧ k < 8) = (low s).testBit k := by
  rw [Bool.eq_iff_iff, decide_eq_true_iff, mem_list, has_nat]
  exact ⟨fun h => h.1, fun h => ⟨h, hk⟩⟩
theorem of_list (s : Int) : of (list s) = low s := by
  refine eq_of (of_lt _) (low_lt s) fun k hk => ?_
  rw [of_test, list_test s k hk]
theorem of_with (s p : Int) : of (list s ++ [p]) = withN s p := by
  rw [of_snoc, of_list]; rfl
end SetM
namespace Tab
open Go Go.RowKit
abbrev I (n : Int) : Value := .int .i64 n
abbrev F (n : Nat) : Value := .float .f64 n
structure Ph where
  on : Bool
  min : Int
  gap : Int
  max : Int
  top : Int
  step : Int
  yellow : Int
  red : Int
  walk : Int
  blinks : Int
  recall : Int
  lock : Bool
  rest : Bool
  deriving DecidableEq, Inhabited
structure Det where
  phase : Int
  on : Nat
  off : Nat
  delay : Nat
  extend : Nat
  maxOn : Int
  maxOff : Int
  deriving DecidableEq, Inhabited
structure Rl where
  bars : Int
  clear : Int
  dwell : Int
  exit : Int
  delay : Int
  green : Int
  foot : Int
  hold : Int
  stay : Int
  most : Int
  limit : Int
  deriving DecidableEq, Inhabited
structure Bs where
  set : Int
  lock : Int
  deriving DecidableEq, Inhabited
structure Tab where
  phases : List Ph
  groups : List (List Int × List Int)
  conflict : List Int
  dets : List Det
  rails : List Rl
  buses : List Bs
  extend : Int
  budget : Int
  start : Int
  revert : Int
  least : Int
  flash : List Int
  window : Int
  share : Int
  deriving DecidableEq, Inhabited
def Ph.cells (p : Ph) : List Value := [.bool p.on, I p.min, I p.gap, I p.max, I p.top, I p.step, I p.yellow, I p.red, I p.walk, I p.blinks, I p.recall, .bool p.lock, .bool p.rest]
def Det.cells (d : Det) : List Value := [I d.phase, F d.on, F d.off, F d.delay, F d.extend, I d.maxOn, I d.maxOff]
def Rl.cells (r : Rl) : List Value := [I r.bars, I r.clear, I r.dwell, I r.exit, I r.delay, I r.green, I r.foot, I r.hold, I r.stay, I r.most, I r.limit]
def Bs.cells (b : Bs) : List Value := [I b.set, I b.lock]
/-- Where a slice lies, and its capacity. -/
structure Sl where
  a : Option Addr
  cap : Nat
abbrev Sl.val (s : Sl) (n : Nat) : Value := .slice s.a n s.cap
def Lies (w : World) (x : Addr) (cs : List Value) : Prop := ∀ j v, cs[j]? = some v → w.cell? (x.add j) = some v
/-- Under a slice lie the elements l, each of n cells. -/
def RowOf {α : Type} (n : Nat) (enc : α → List Value) (w : World) (s : Sl) (l : List α) : Prop :=
  (s.a = none ∧ s.cap = 0 ∧ l = []) ∨ ∃ x, s.a = some x ∧ l.length ≤ s.cap ∧ s.cap ≤ maxLen ∧ ∀ i v, l[i]? = some v → Lies w (x.add (i * n)) (enc v)
abbrev IntRow (w : World) (s : Sl) (l : List Int) : Prop := RowOf 1 (fun n => [I n]) w s l
theorem add_zero (x : Addr) : x.add 0 = x := by cases x; simp [Addr.add]
theorem add_one (y : Addr) : y.add 1 = ⟨y.block, y.off + 1, none⟩ := by simp [Addr.add]
theorem add_two (x : Addr) (p i : Nat) : (x.add p).add i = x.add (p + i) := by
  unfold Addr.add
  by_cases hp : p = 0
  · subst hp; simp
  · by_cases hi : i = 0
    · subst hi; simp
    · simp [hp, hi, show ¬ (p + i = 0) by omega, Nat.add_assoc]
theorem Lies.below {w w' : World} {x : Addr} {cs : List Value} (h : Lies w x cs) (hb : Below w.heap.size w w') : Lies w' x cs := fun j v hv =>
  (hb.cell (World.block_lt_of_cell? w _ (h j v hv))).trans (h j v hv)
section
variable {α : Type} {n : Nat} {enc : α → List Value} {w w' : World} {s : Sl} {l : List α}
theorem RowOf.below (h : RowOf n enc w s l) (hb : Below w.heap.size w w') : RowOf n enc w' s l := by
  rcases h with h | ⟨x, h1, h2, h3, h4⟩
  · exact .inl h
  · exact .inr ⟨x, h1, h2, h3, fun i v hv => (h4 i v hv).below hb⟩
theorem RowOf.len (h : RowOf n enc w s l) : l.length ≤ s.cap ∧ s.cap ≤ maxLen := by
  rcases h with ⟨_, h1, rfl⟩ | ⟨x, h1, h2, h3, h4⟩
  · rw [h1]; exact ⟨Nat.le_refl _, Nat.zero_le _⟩
  · exact ⟨h2, h3⟩
theorem RowOf.at (h : RowOf n enc w s l) {i : Nat} {v : α} (hv : l[i]? = some v) : ∃ x, s.a = some x ∧ Lies w (x.add (i * n)) (enc v) := by
  rcases h with ⟨_, _, rfl⟩ | ⟨x, h1, h2, h3, h4⟩
  · simp at hv
  · exact ⟨x, h1, h4 i v hv⟩
theorem RowOf.nil (w : World) : RowOf n enc w ⟨none, 0⟩ [] := .inl ⟨rfl, rfl, rfl⟩
theorem IntRow.at {s : Sl} {l : List Int} (h : IntRow w s l) {i : Nat} {v : Int} (hv : l[i]? = some v) : ∃ x, s.a = some x ∧ w.cell? (x.add i) = some (I v) := by
  obtain ⟨x, hx, hl⟩ := RowOf.at h hv
  have := hl 0 _ rfl
  rw [Nat.mul_one, add_two, Nat.add_zero] at this
  exact ⟨x, hx, this⟩
end
/-- A group's rows, and where they lie. -/
structure Gr where
  r0 : List Int
  r1 : List Int
  s0 : Sl
  s1 : Sl
def Gr.cells (g : Gr) : List Value := [g.s0.val g.r0.length, g.s1.val g.r1.length]
def Gr.ok (w : World) (g : Gr) : Prop := IntRow w g.s0 g.r0 ∧ IntRow w g.s1 g.r1
def Gr.data (g : Gr) : List Int × List Int := (g.r0, g.r1)
def GroupsLie (w : World) (s : Sl) (gs : List Gr) : Prop := RowOf 2 Gr.cells w s gs ∧ ∀ g ∈ gs, g.ok w
theorem Gr.ok.below {w w' : World} {g : Gr} (h : g.ok w) (hb : Below w.heap.size w w') : g.ok w' := ⟨h.1.below hb, h.2.below hb⟩
theorem GroupsLie.below {w w' : World} {s : Sl} {gs : List Gr} (h : GroupsLie w s gs) (hb : Below w.heap.size w w') : GroupsLie w' s gs := ⟨h.1.below hb, fun g hg => (h.2 g hg).below hb⟩
theorem Ph.one (p : Ph) : p.cells.toArray.all (·.oneCell') = true := by simp [Ph.cells, Value.oneCell']
theorem Det.one (d : Det) : d.cells.toArray.all (·.oneCell') = true := by simp [Det.cells, Value.oneCell']
theorem Rl.one (r : Rl) : r.cells.toArray.all (·.oneCell') = true := by simp [Rl.cells, Value.oneCell']
theorem Bs.one (b : Bs) : b.cells.toArray.all (·.oneCell') = true := by simp [Bs.cells, Value.oneCell']
theorem Gr.one (g : Gr) : g.cells.toArray.all (·.oneCell') = true := by simp [Gr.cells, Value.oneCell']
/-- Where a table's four lists lie. -/
structure Hd where
  g : Sl
  d : Sl
  r : Sl
  b : Sl
def Tab.cells (T : Tab) (h : Hd) : List Value :=
  T.phases.flatMap Ph.cells ++ (h.g.val T.groups.length :: (T.conflict.map I ++ (h.d.val T.dets.length :: h.r.val T.rails.length :: h.b.val T.buses.length :: I T.extend :: I T.budget :: I T.start :: I T.revert :: I T.least ::
    (T.flash.map I ++ [I T.window, I T.share]))))
/-- A table's lists lie in memory as it says. -/
structure IsTab (w : World) (h : Hd) (T : Tab) : Prop where
  ph : T.phases.length = 8
  cf : T.conflict.length = 8
  fl : T.flash.length = 8
  groups : ∃ gs : List Gr, gs.map Gr.data = T.groups ∧ GroupsLie w h.g gs
  dets : RowOf 7 Det.cells w h.d T.dets
  rails : RowOf 11 Rl.cells w h.r T.rails
  buses : RowOf 2 Bs.cells w h.b T.buses
theorem IsTab.below {w w' : World} {h : Hd} {T : Tab} (k : IsTab w h T) (hb : Below w.heap.size w w') : IsTab w' h T :=
  ⟨k.ph, k.cf, k.fl, let ⟨gs, h1, h2⟩ := k.groups; ⟨gs, h1, h2.below hb⟩, k.dets.below hb, k.rails.below hb, k.buses.below hb⟩
theorem eight {α : Type} {l : List α} (h : l.length = 8) : ∃ a0 a1 a2 a3 a4 a5 a6 a7, l = [a0, a1, a2, a3, a4, a5, a6, a7] := by
  match l, h with
  | [a0, a1, a2, a3, a4, a5, a6, a7], _ => exact ⟨a0, a1, a2, a3, a4, a5, a6, a7, rfl⟩
/-- What stands where in a table's cells. -/
structure CellsOk (T : Tab) (h : Hd) (cs : Array Value) : Prop where
  size : cs.size = 131
  one : cs.all (·.oneCell') = true
  g : cs[104]? = some (h.g.val T.groups.length)
  d : cs[113]? = some (h.d.val T.dets.length)
  r : cs[114]? = some (h.r.val T.rails.length)
  b : cs[115]? = some (h.b.val T.buses.length)
  extend : cs[116]? = some (I T.extend)
  budget : cs[117]? = some (I T.budget)
  start : cs[118]? = some (I T.start)
  revert : cs[119]? = some (I T.revert)
  least : cs[120]? = some (I T.least)
  window : cs[129]? = some (I T.window)
  share : cs[130]? = some (I T.share)
  phases : cs.toList.take 104 = T.phases.flatMap Ph.cells
  conflict : (cs.toList.drop 105).take 8 = T.conflict.map I
  flash : (cs.toList.drop 121).take 8 = T.flash.map I
  phase : ∀ i p, T.phases[i]? = some p → (cs.toList.drop (13 * i)).take 13 = p.cells
theorem cells_ok {w : World} {h : Hd} {T : Tab} (k : IsTab w h T) : CellsOk T h (T.cells h).toArray := by
  obtain ⟨p0, p1, p2, p3, p4, p5, p6, p7, hp⟩ := eight k.ph
  obtain ⟨c0, c1, c2, c3, c4, c5, c6, c7, hc⟩ := eight k.cf
  obtain ⟨f0, f1, f2, f3, f4, f5, f6, f7, hf⟩ := eight k.fl
  clear k
  obtain ⟨phases, groups, conflict, dets, rails, buses, extend, budget, start, revert, least, flash, window, share⟩ := T
  simp only at hp hc hf
  subst hp hc hf
  constructor
  all_goals try rfl
  case one => simp [Tab.cells, Ph.cells, Value.oneCell']
  intro i p hp
  match i, hp with
  | 0, hp | 1, hp | 2, hp | 3, hp | 4, hp | 5, hp | 6, hp | 7, hp => 
    obtain rfl := Option.some.inj hp
    rfl
  | i + 8, hp => cases hp
theorem phases_len {l : List Ph} : (l.flatMap Ph.cells).length = 13 * l.length := by
  induction l with
  | nil => rfl
  | cons p l ih => rw [List.flatMap_cons, List.length_append, ih, List.length_cons]; simp [Ph.cells]; omega
theorem phases_inj : ∀ {l m : List Ph}, l.flatMap Ph.cells = m.flatMap Ph.cells → l = m
  | [], [], _ => rfl
  | [], q :: m, h => by simp [Ph.cells] at h
  | p :: l, [], h => by simp [Ph.cells] at h
  | p :: l, q :: m, h => by
    rw [List.flatMap_cons, List.flatMap_cons] at h
    obtain ⟨h1, h2⟩ := List.append_inj h (by simp [Ph.cells])
    rw [phases_inj h2]
    obtain ⟨⟩ := p
    obtain ⟨⟩ := q
    simp [Ph.cells] at h1
    simp [h1]
theorem ints_inj : ∀ {l m : List Int}, l.map I = m.map I → l = m
  | [], [], _ => rfl
  | [], _ :: _, h => by simp at h
  | _ :: _, [], h => by simp at h
  | a :: l, b :: m, h => by
    simp only [List.map_cons, List.cons.injEq, Value.int.injEq, true_and] at h
    rw [h.1, ints_inj h.2]
/-- A block's part, out of what is known of its cells. -/
theorem range_of {w : World} {b : Nat} {C : Array Value} {t : TypeId} {fr : Nat × Nat} (hb : w.heap[b]? = some (.cells C t fr)) (o n : Nat) (cs : List Value) (h : (C.toList.drop o).take n = cs) : w.rangeAt b o cs := by
  subst h
  have h1 := World.rangeAt_of_block hb o n
  rwa [Array.toList_extract, List.extract, Nat.add_sub_cancel_left] at h1
end Tab
namespace RefS
open Go.ChangeShapes Go.WideShapes Go.ChangeAt Go.RowKit
open Go.Proofs.Ytambpohphbdhcaa
theorem ret_int {k : IntKind} {a b : Int} (h : a = b) : Ending.returned (.int k a) = .returned (.int k b) := by rw [h]
theorem ret_bool {a b : Bool} (h : a = b) : Ending.returned (.bool a) = .returned (.bool b) := by rw [h]
theorem eight {p : Int} (h : 0 ≤ p) (h' : p < 8) : p = 0 ∨ p = 1 ∨ p = 2 ∨ p = 3 ∨ p = 4 ∨ p = 5 ∨ p = 6 ∨ p = 7 := by omega
theorem shr_has (s : Int) (k : Nat) (h : k < 8) : (bits .and .i64 (s / 2 ^ k) 1 == 1) = SetM.has s k := by
  rw [SetM.has_shr s k h]
  cases SetM.has s k <;> rfl
theorem rhas_any (s p : Int) (w : World) : Calls Try.prog 61 #[.int .i64 s, .int .i64 p] w fun e w' => e = .returned (.bool (SetM.has s p)) ∧ w = w' := by
  by_cases h1 : p < 0
  · have HB := Lib.hid (SetM.has_neg s p h1)
    go_enter Try.func61, Try.ntmps61
    go_wp2
    go_ret
    exact ⟨ret_bool HB.out.symm, rfl⟩
  by_cases h2 : 8 ≤ p
  · have HB := Lib.hid (SetM.has_big s p h2)
    go_enter Try.func61, Try.ntmps61
    go_wp2
    go_ret
    exact ⟨ret_bool HB.out.symm, rfl⟩
  rcases eight (p := p) (by omega) (by omega) with rfl | rfl | rfl | rfl | rfl | rfl | rfl | rfl
  · have HB := Lib.hid (show (bits .and .i64 s 1 == 1) = SetM.has s 0 from by have := shr_has s 0 (by decide); simpa using this)
    clear h1 h2
    go_enter Try.func61, Try.ntmps61
    go_wp2
    go_ret
    exact ⟨ret_bool HB.out, rfl⟩
  · have HB := Lib.hid (show (bits .and .i64 (s / 2) 1 == 1) = SetM.has s 1 from shr_has s 1 (by decide))
    clear h1 h2
    go_enter Try.func61, Try.ntmps61
    go_wp2
    go_ret
    exact ⟨ret_bool HB.out, rfl⟩
  · have HB := Lib.hid (show (bits .and .i64 (s / 4) 1 == 1) = SetM.has s 2 from shr_has s 2 (by decide))
    clear h1 h2
    go_enter Try.func61, Try.ntmps61
    go_wp2
    go_ret
    exact ⟨ret_bool HB.out, rfl⟩
  · have HB := Lib.hid (show (bits .and .i64 (s / 8) 1 == 1) = SetM.has s 3 from shr_has s 3 (by decide))
    clear h1 h2
    go_enter Try.func61, Try.ntmps61
    go_wp2
    go_ret
    exact ⟨ret_bool HB.out, rfl⟩
  · have HB := Lib.hid (show (bits .and .i64 (s / 16) 1 == 1) = SetM.has s 4 from shr_has s 4 (by decide))
    clear h1 h2
    go_enter Try.func61, Try.ntmps61
    go_wp2
    go_ret
    exact ⟨ret_bool HB.out, rfl⟩
  · have HB := Lib.hid (show (bits .and .i64 (s / 32) 1 == 1) = SetM.has s 5 from shr_has s 5 (by decide))
    clear h1 h2
    go_enter Try.func61, Try.ntmps61
    go_wp2
    go_ret
    exact ⟨ret_bool HB.out, rfl⟩
  · have HB := Lib.hid (show (bits .and .i64 (s / 64) 1 == 1) = SetM.has s 6 from shr_has s 6 (by decide))
    clear h1 h2
    go_enter Try.func61, Try.ntmps61
    go_wp2
    go_ret
    exact ⟨ret_bool HB.out, rfl⟩
  · have HB := Lib.hid (show (bits .and .i64 (s / 128) 1 == 1) = SetM.has s 7 from shr_has s 7 (by decide))
    clear h1 h2
    go_enter Try.func61, Try.ntmps61
    go_wp2
    go_ret
    exact ⟨ret_bool HB.out, rfl⟩
theorem info3 : (Try.prog.info? 3).map (fun i => (i.zero, i.size, i.bytes)) = some (some (.int .i64 0), 1, 8) := by kernel_rfl
/-- A slice of its own memory (laid since B) that holds the integers l; nil just where there are none. -/
def Owns (B : Nat) (W : World) (v : Value) (l : List Int) : Prop := W.ownsRow B 3 1 v l.length (l.map (Value.int .i64)) ∧ (v = .slice none 0 0 ↔ l = [])
/-- What a function hands back that gathers integers. -/
def Gave (w : World) (l : List Int) (e : Ending) (W' : World) : Prop := ∃ v, e = .returned v ∧ Owns w.heap.size W' v l ∧ Below w.heap.size w W'
theorem row_blk {W : World} {n₀ e size k : Nat} {v : Value} {xs : List Value} (h : W.ownsRow n₀ e size v k xs) (j : Nat) (hj : v.ownBlock = some j) : n₀ ≤ j := by
  rcases h.2 with ⟨rfl, _⟩ | ⟨g, cap, cur, rfl, hb, _, _⟩
  · simp [Value.ownBlock] at hj
  · obtain rfl : g = j := by simpa [Value.ownBlock] using hj
    exact hb
theorem map_snoc (pre : List Int) (x : Int) : pre.map (Value.int .i64) ++ [.int .i64 x] = (pre ++ [x]).map (Value.int .i64) := by simp
theorem add_zero (x : Addr) : x.add 0 = x := by cases x; simp [Addr.add]
/-- A slice's address under which the integers l lie. -/
def Row (w : World) (a : Option Addr) (l : List Int) : Prop := l.length ≤ maxLen ∧ (l = [] ∨ ∃ x, a = some x ∧ ∀ i, i < l.length → w.cell? (x.add i) = some (.int .i64 (l.getD i 0)))
theorem Row.cells {w : World} {a : Option Addr} {l : List Int} (h : Row w a l) {k : Nat} (hk : k < l.length) : ∃ x, a = some x ∧ ∀ i, i < l.length → w.cell? (x.add i) = some (.int .i64 (l.getD i 0)) := by
  rcases h.2 with rfl | h
  · simp at hk
  · exact h
theorem Row.below {w w' : World} {a : Option Addr} {l : List Int} (h : Row w a l) (hb : Below w.heap.size w w') : Row w' a l := by
  refine ⟨h.1, ?_⟩
  rcases h.2 with h | ⟨x, hx, hc⟩
  · exact .inl h
  · exact .inr ⟨x, hx, fun i hi => (hb.cell (World.block_lt_of_cell? w _ (hc i hi))).trans (hc i hi)⟩
/-- What a function has gathered reads as a row. -/
theorem row_of {B : Nat} {w : World} {v : Value} {l : List Int} (h : Owns B w v l) : ∃ a cap, v = .slice a l.length cap ∧ Row w a l := by
  rcases h.1.2 with ⟨rfl, h0⟩ | ⟨g, cap, cur, rfl, h1, h2, h3, h4, h5, h6⟩
  · have : l = [] := h.2.1 rfl
    subst this
    exact ⟨none, 0, rfl, Nat.zero_le _, .inl rfl⟩
  · refine ⟨_, cap, rfl, by omega, .inr ⟨_, rfl, fun i hi => ?_⟩⟩
    exact h.1.cells (g := g) rfl i (.int .i64 (l.getD i 0)) (by rw [List.getElem?_map, List.getD_eq_getElem?_getD, List.getElem?_eq_getElem hi]; rfl)
theorem take_succ (l : List Int) (k : Nat) (h : k < l.length) : l.take (k + 1) = l.take k ++ [l.getD k 0] := by
  rw [List.take_succ_eq_append_getElem h, List.getD_eq_getElem?_getD, List.getElem?_eq_getElem h]; rfl
theorem or_small (m b : Nat) (hm : m < 256) (hb : b < 256) : bits .or .i64 (m : Int) (b : Int) = ((m ||| b : Nat) : Int) :=
  (bits_nat .i64 8 (by decide) (fun n h0 h1 => by rw [IntKind.wrap_i64]; omega) m b hm hb).2
theorem ref_lt (l : List Int) (k : Nat) (h : k ≤ 8) : SetM.refOf l k < 256 := Nat.lt_of_lt_of_le (SetM.refOf_lt l k) (Nat.pow_le_pow_right (n := 2) (by decide) h : 2 ^ k ≤ 2 ^ 8)
theorem ref_or (l : List Int) (k : Nat) (h : k < 8) (hm : (k : Int) ∈ l) : bits .or .i64 (SetM.refOf l k : Nat) ((2 ^ k : Nat) : Int) = (SetM.refOf l (k + 1) : Nat) := by
  rw [or_small _ _ (ref_lt l k (by omega)) (show 2 ^ k < 2 ^ 8 from Nat.pow_lt_pow_right (by decide) h), SetM.refOf_hit l k hm]
theorem wrap_pow (k : Nat) (h : k < 8) : wrap64 ((2 : Int) ^ k) = ((2 ^ k : Nat) : Int) := by
  have h3 : k = 0 ∨ k = 1 ∨ k = 2 ∨ k = 3 ∨ k = 4 ∨ k = 5 ∨ k = 6 ∨ k = 7 := by omega
  rcases h3 with rfl | rfl | rfl | rfl | rfl | rfl | rfl | rfl <;> decide +kernel
theorem ref_or2 (l : List Int) (k : Nat) (h : k < 8) (hm : (k : Int) ∈ l) : bits .or .i64 (SetM.refOf l k : Nat) (wrap64 ((2 : Int) ^ k)) = (SetM.refOf l (k + 1) : Nat) := by
  rw [wrap_pow k h, ref_or l k h hm]
/-- The first place of a number that is there. -/
theorem first_at {l : List Int} {p : Int} (h : p ∈ l) : ∃ j, j < l.length ∧ l.getD j 0 = p ∧ ∀ i, i < j → l.getD i 0 ≠ p := by
  induction l with
  | nil => simp at h
  | cons y l ih =>
    by_cases e : y = p
    · exact ⟨0, by simp, by simpa using e, fun i hi => by omega⟩
    · obtain ⟨j, h1, h2, h3⟩ := ih (by simpa [Ne.symm e] using h)
      refine ⟨j + 1, by simp; omega, by simpa using h2, fun i hi => ?_⟩
      cases i with
      | zero => simpa using e
      | succ i => simpa using h3 i (by omega)
theorem rof_any (a : Option Addr) (cap : Nat) (l : List Int) (w : World) (h : Row w a l) :
    Calls Try.prog 38 #[.slice a l.length cap] w fun e w' => e = .returned (.int .i64 (SetM.of l : Nat)) ∧ w = w' := by
  have h1 := h.1
  unfold maxLen at h1
  have Hr := Lib.hid h
  clear h
  go_enter Try.func38, Try.ntmps38
  go_wp2
  go_loop [3, 4] (fun t p => ∃ k : Nat, k ≤ 8 ∧ p = .int .i64 k ∧ t = .int .i64 (SetM.refOf l k : Nat)) (fun _ p => 8 - (intOf p).toNat)
  case atStart => exact ⟨0, Nat.zero_le _, rfl, rfl⟩
  case round =>
    obtain ⟨k, hk, rfl, rfl⟩ := hrel
    by_cases hlt : k < 8
    · by_cases hm : (k : Int) ∈ l
      · have HS := Lib.hid (ref_or2 l k hlt hm)
        obtain ⟨j, hj, hjk, hjn⟩ := first_at hm
        have Hj := Lib.hid hjk
        have Hn := Lib.hid hjn
        clear hjk hjn hm
        go_wp2
        go_loop [3, 5] (fun t i => ∃ m : Nat, m ≤ j ∧ i = .int .i64 m ∧ t = .int .i64 (SetM.refOf l k : Nat)) (fun _ i => j - (intOf i).toNat)
        case atStart => exact ⟨0, Nat.zero_le _, rfl, rfl⟩
        case round =>
          obtain ⟨m, hm, rfl, rfl⟩ := hrel
          have hml : m < l.length := by omega
          obtain ⟨x, rfl, hc⟩ := Hr.out.cells hml
          have hcell := hc m hml
          clear hc
          by_cases hmj : m < j
          · have hne := Hn.out m hmj
            generalize l.getD m 0 = y at hne hcell
            go_wp2
            go_round
            case rel => exact ⟨m + 1, by omega, by go_num, rfl⟩
            case measure => simp [intOf]; omega
          · obtain rfl : m = j := by omega
            rw [Hj.out] at hcell
            go_wp2
            go_round
            case rel => exact ⟨k + 1, by omega, by go_num, by rw [HS.out]⟩
            case measure => simp [intOf]; omega
      · have HS := Lib.hid (SetM.refOf_miss l k hm)
        have Hm : Hid (∀ i, i < l.length → l.getD i 0 ≠ (k : Int)) := Lib.hid (fun i hi e => hm (by rw [← e, List.getD_eq_getElem?_getD, List.getElem?_eq_getElem hi]; exact List.getElem_mem hi))
        clear hm
        go_wp2
        go_loop [3, 5] (fun t i => ∃ m : Nat, m ≤ l.length ∧ i = .int .i64 m ∧ t = .int .i64 (SetM.refOf l k : Nat)) (fun _ i => l.length - (intOf i).toNat)
        case atStart => exact ⟨0, Nat.zero_le _, rfl, rfl⟩
        case round =>
          obtain ⟨m, hm, rfl, rfl⟩ := hrel
          by_cases hml : m < l.length
          · obtain ⟨x, rfl, hc⟩ := Hr.out.cells hml
            have hcell := hc m hml
            clear hc
            have hne := Hm.out m hml
            generalize l.getD m 0 = y at hne hcell
            go_wp2
            go_round
            case rel => exact ⟨m + 1, by omega, by go_num, rfl⟩
            case measure => simp [intOf]; omega
          · go_wp2
            go_round
            case rel => exact ⟨k + 1, by omega, by go_num, by rw [HS.out]⟩
            case measure => simp [intOf]; omega
    · have HS := Lib.hid (SetM.refOf_eq l)
      obtain rfl : k = 8 := by omega
      go_wp2
      go_ret
      exact ⟨ret_int (by rw [HS.out]), rfl⟩
theorem list_snoc {B : Nat} {l : List Int} {x : Int} {v' : Value} {w1 : World} (h : w1.ownsRow B 3 1 v' (l.length + 1) (l.map (Value.int .i64) ++ [.int .i64 x])) (hn : ¬ v' = .slice none 0 0) : Owns B w1 v' (l ++ [x]) := by
  refine ⟨?_, ?_⟩
  · rw [List.length_append, ← map_snoc]; exact h
  · simp [hn]
theorem rlist_any (s : Int) (w : World) : Calls Try.prog 39 #[.int .i64 s] w (Gave w (SetM.list s)) := by
  obtain ⟨i0, hi, hz0, hz1, hz2⟩ := info_parts info3
  go_enter Try.func39, Try.ntmps39
  go_wp2
  go_loopw [3, 4] (fun v p wr => ∃ k : Nat, k ≤ 8 ∧ p = .int .i64 k ∧ Owns w.heap.size wr v (SetM.upto s k) ∧ Below w.heap.size w wr) (fun _ p _ => 8 - (intOf p).toNat)
  case atStart => exact ⟨0, Nat.zero_le _, rfl, ⟨World.ownsRow_nil _ _ _ _, by simp [SetM.upto_zero]⟩, Below.refl _ _⟩
  case round =>
    obtain ⟨k, hk, rfl, ⟨hown, hnil⟩, hbel⟩ := hrel
    have hB := hbel.size
    have Hn := Lib.hid hnil
    clear hnil
    by_cases hlt : k < 8
    · have hul := SetM.upto_len s k
      by_cases hh : SetM.has s k = true
      · have Hs := Lib.hid (SetM.upto_hit s k hh)
        go_wp2_with (first
          | (go_at_call 61; refine (rhas_any _ _ _).mono ?_; rintro e w' ⟨rfl, rfl⟩; rw [hh])
          | (at_builtin; refine wpList_append_own _ rfl _ _ 22 rfl w.heap.size 3 i0 (.int .i64 0) 1 8 Try.underlying22 hi hz0 hz1 hz2 rfl (by decide) _ _ _ rfl (hown.alloc _) ⟨wr.heap.size, 0, none⟩ 1 1 [.int .i64 (k : Int)] rfl rfl ?c1 ?c2 ?c3 ?c4 ?c5 ?_))
        case c1 =>
          intro j u hj
          match j, hj with
          | 0, hj => simp at hj; subst hj; simp [Addr.add]
        case c2 => intro u hu; simp at hu; subst hu; rfl
        case c3 => unfold maxLen; omega
        case c4 => omega
        case c5 => simp; omega
        intro v' w1 hown' hgrow hnil'
        have hbel' : Below w.heap.size w w1 := (hbel.alloc (by omega) _).grown hgrow (by simp; omega) fun j hj => row_blk hown j hj
        have Hown := Lib.hid (list_snoc hown' hnil')
        clear hown' hgrow hown hnil'
        go_wp2
        go_roundw
        case rel => exact ⟨k + 1, by omega, by go_num, by rw [Hs.out]; exact Hown.out, hbel'⟩
        case measure => simp [intOf]; omega
      · have hh' : SetM.has s k = false := by simpa using hh
        have Hs := Lib.hid (SetM.upto_miss s k hh')
        clear hh
        go_wp2_with (go_at_call 61; refine (rhas_any _ _ _).mono ?_; rintro e w' ⟨rfl, rfl⟩; rw [hh'])
        go_roundw
        case rel => exact ⟨k + 1, by omega, by go_num, by rw [Hs.out]; exact ⟨hown, Hn.out⟩, hbel⟩
        case measure => simp [intOf]; omega
    · obtain rfl : k = 8 := by omega
      go_wp2
      go_ret
      exact ⟨_, rfl, ⟨hown, Hn.out⟩, hbel⟩
theorem rwith_any (s p : Int) (w : World) : Calls Try.prog 14 #[.int .i64 s, .int .i64 p] w fun e w' => e = .returned (.int .i64 (SetM.withN s p : Nat)) ∧ Below w.heap.size w w' := by
  obtain ⟨i0, hi, hz0, hz1, hz2⟩ := info_parts info3
  have hl8 := SetM.list_len s
  have HS := Lib.hid (SetM.of_with s p)
  go_enter Try.func14, Try.ntmps14
  go_wp2_with fail
  refine (rlist_any _ _).mono ?_
  rintro e w1 ⟨v, rfl, ⟨hown, hnil⟩, hbel⟩
  have hB := hbel.size
  clear hnil
  go_wp2_with (at_builtin; refine wpList_append_own _ rfl _ _ 22 rfl w.heap.size 3 i0 (.int .i64 0) 1 8 Try.underlying22 hi hz0 hz1 hz2 rfl (by decide) _ _ _ rfl (hown.alloc _) ⟨w1.heap.size, 0, none⟩ 1 1 [.int .i64 p] rfl rfl ?c1 ?c2 ?c3 ?c4 ?c5 ?_)
  case c1 =>
    intro j u hj
    match j, hj with
    | 0, hj => simp at hj; subst hj; simp [Addr.add]
  case c2 => intro u hu; simp at hu; subst hu; rfl
  case c3 => unfold maxLen; omega
  case c4 => omega
  case c5 => simp; omega
  intro v' w2 hown' hgrow hnil'
  have hbel' : Below w.heap.size w w2 := (hbel.alloc (by omega) _).grown hgrow (by simp; omega) fun j hj => row_blk hown j hj
  obtain ⟨L, hL⟩ : ∃ L, SetM.list s ++ [p] = L := ⟨_, rfl⟩
  have hrow' := list_snoc hown' hnil'
  rw [hL] at HS hrow'
  obtain ⟨a, cap, rfl, hrow⟩ := row_of hrow'
  have Hrow := Lib.hid hrow
  clear hown' hgrow hown hnil' hrow hrow' hL
  go_wp2_with (go_at_call 38; refine (rof_any _ _ L _ Hrow.out).mono ?_; rintro e w' ⟨rfl, rfl⟩)
  go_ret
  exact ⟨ret_int (by rw [HS.out]), hbel'⟩
/-- A number as one from 0 to n - 1. -/
theorem place_any (v n : Int) (w : World) (h : 0 < n) (h' : n ≤ 9223372036854775807) :
    Calls Try.prog 36 #[.int .i64 v, .int .i64 n] w fun e w' => e = .returned (.int .i64 (v % n)) ∧ w = w' := by
  have hm := Int.emod_nonneg v (show n ≠ 0 by omega)
  have hm2 := Int.emod_lt_of_pos v h
  have ht : 0 ≤ v.tmod n ∧ v % n = v.tmod n ∨ v.tmod n < 0 ∧ v % n = v.tmod n + n := by
    have h1 := Int.tmod_eq_emod (a := v) (b := n)
    split at h1 <;> omega
  have hb : -9223372036854775808 ≤ v.tmod n ∧ v.tmod n ≤ 9223372036854775807 := by omega
  obtain ⟨hb1, hb2⟩ := hb
  have hn0 : n ≠ 0 := by omega
  rcases ht with ⟨ht, he⟩ | ⟨ht, he⟩
  · have He := Lib.hid he
    clear he hm hm2
    go_enter Try.func36, Try.ntmps36
    go_wp2
    go_ret
    exact ⟨ret_int (by rw [He.out]), rfl⟩
  · have He := Lib.hid he
    clear he hm hm2
    go_enter Try.func36, Try.ntmps36
    go_wp2
    go_ret
    exact ⟨ret_int (by rw [He.out]), rfl⟩
/-! numbers of a row -/
open Tab in
/-- A row of numbers, at a place; 0 behind the end. -/
def num (L : List Int) (i : Int) (n : Int) : Int := L.getD i.toNat 0 % n
open Tab in
theorem at_any (a : Option Addr) (cap : Nat) (L : List Int) (i : Int) (w : World) (h : IntRow w ⟨a, cap⟩ L) (h0 : 0 ≤ i) :
    Calls Try.prog 37 #[.slice a L.length cap, .int .i64 i] w fun e w' => e = .returned (.int .i64 (L.getD i.toNat 0)) ∧ w = w' := by
  have hl := h.len
  unfold maxLen at hl
  obtain ⟨k, rfl⟩ := Int.eq_ofNat_of_zero_le h0
  by_cases hk : k < L.length
  · have hv := List.getElem?_eq_getElem hk
    generalize hu : L[k] = u at hv
    obtain ⟨x, hx, hc⟩ := IntRow.at h hv
    obtain rfl : a = some x := hx
    have HE : Hid (u = L.getD ((k : Int)).toNat 0) := Lib.hid (by rw [Int.toNat_natCast, List.getD_eq_getElem?_getD, hv]; rfl)
    generalize L.getD ((k : Int)).toNat 0 = r at HE ⊢
    clear hv hu h
    go_enter Try.func37, Try.ntmps37
    go_wp2
    go_ret
    exact ⟨ret_int HE.out, rfl⟩
  · have HE : Hid (0 = L.getD ((k : Int)).toNat 0) := Lib.hid (by rw [Int.toNat_natCast, List.getD_eq_getElem?_getD, List.getElem?_eq_none (by omega)]; rfl)
    generalize L.getD ((k : Int)).toNat 0 = r at HE ⊢
    clear h
    go_enter Try.func37, Try.ntmps37
    go_wp2
    go_ret
    exact ⟨ret_int HE.out, rfl⟩
open Tab in
theorem from_any (a : Option Addr) (cap : Nat) (L : List Int) (i n : Int) (w : World) (h : IntRow w ⟨a, cap⟩ L) (h0 : 0 ≤ i) (hn : 0 < n) (hn' : n ≤ 1000) :
    Calls Try.prog 13 #[.slice a L.length cap, .int .i64 i, .int .i64 n] w fun e w' => e = .returned (.int .i64 (num L i n)) ∧ w = w' := by
  have H := Lib.hid h
  clear h
  go_enter Try.func13, Try.ntmps13
  go_wp2_with fail
  refine (at_any a cap L i w H.out h0).mono ?_
  rintro e w' ⟨rfl, rfl⟩
  have HE : Hid (L.getD i.toNat 0 % n = num L i n) := Lib.hid rfl
  generalize L.getD i.toNat 0 = v at HE ⊢
  go_wp2_with fail
  refine (place_any v n _ hn (by omega)).mono ?_
  rintro e w' ⟨rfl, rfl⟩
  go_wp2
  go_ret
  exact ⟨ret_int HE.out, rfl⟩
theorem num_range (L : List Int) (i n : Int) (hn : 0 < n) : 0 ≤ num L i n ∧ num L i n < n := ⟨Int.emod_nonneg _ (by omega), Int.emod_lt_of_pos _ hn⟩
end RefS
namespace Gath
open Go Go.RowKit
open Tab
section
variable {α : Type} {enc : α → List Value} {size : Nat} {B : Nat} {w w' : World} {e : TypeId} {v : Value} {l : List α}
/-- A slice of its own memory (laid since B) that holds the elements l. -/
def Owns (enc : α → List Value) (size B : Nat) (w : World) (e : TypeId) (v : Value) (l : List α) : Prop := w.ownsRow B e size v l.length (l.flatMap enc)
theorem Owns.nil : Owns enc size B w e (.slice none 0 0) ([] : List α) := World.ownsRow_nil _ _ _ _
theorem Owns.snoc {x : α} {v' : Value} (h : w.ownsRow B e size v' (l.length + 1) (l.flatMap enc ++ enc x)) : Owns enc size B w e v' (l ++ [x]) := by
  unfold Owns
  rw [List.length_append, List.flatMap_append, List.flatMap_cons, List.flatMap_nil, List.append_nil]
  exact h
theorem Owns.below (h : Owns enc size B w e v l) (hb : Below w.heap.size w w') : Owns enc size B w' e v l :=
  World.ownsRow.kept (row := none) h ⟨hb.os, hb.tape, hb.output, hb.size, fun j hj _ => hb.block j hj⟩ (by cases hv : v.ownBlock <;> simp)
theorem Owns.mono {B' : Nat} (h : Owns enc size B w e v l) (hb : B' ≤ B) : Owns enc size B' w e v l := by
  refine ⟨h.1, ?_⟩
  rcases h.2 with hn | ⟨g, cap, cur, rfl, h1, h2⟩
  · exact .inl hn
  · exact .inr ⟨g, cap, cur, rfl, by omega, h2⟩
theorem Owns.blk (h : Owns enc size B w e v l) (j : Nat) (hj : v.ownBlock = some j) : B ≤ j := by
  rcases h.2 with ⟨rfl, _⟩ | ⟨g, cap, cur, rfl, hb, _, _⟩
  · simp [Value.ownBlock] at hj
  · obtain rfl : g = j := by simpa [Value.ownBlock] using hj
    exact hb
theorem flat_len (henc : ∀ x, (enc x).length = size) : ∀ l : List α, (l.flatMap enc).length = l.length * size
  | [] => by simp
  | x :: l => by rw [List.flatMap_cons, List.length_append, henc, flat_len henc l, List.length_cons, Nat.add_mul]; omega
theorem flat_at (henc : ∀ x, (enc x).length = size) : ∀ (l : List α) (i : Nat) (x : α), l[i]? = some x → ((l.flatMap enc).drop (i * size)).take size = enc x
  | [], i, x, h => by simp at h
  | y :: l, 0, x, h => by
    obtain rfl : y = x := by simpa using h
    rw [Nat.zero_mul, List.drop_zero, List.flatMap_cons, ← henc y, List.take_left]
  | y :: l, i + 1, x, h => by
    rw [List.flatMap_cons, Nat.add_mul, Nat.one_mul, Nat.add_comm, ← henc y, List.drop_append, List.drop_of_length_le (by omega), List.nil_append, Nat.add_sub_cancel_left, henc y]
    exact flat_at henc l i x (by simpa using h)
/-- What was gathered reads as a row. -/
theorem Owns.row (h : Owns enc size B w e v l) (henc : ∀ x, (enc x).length = size) : ∃ s : Sl, v = s.val l.length ∧ RowOf size enc w s l := by
  rcases h.2 with ⟨rfl, h0⟩ | ⟨g, cap, cur, rfl, h1, h2, h3, h4, h5, h6⟩
  · have : l = [] := List.eq_nil_of_length_eq_zero h0
    subst this
    exact ⟨⟨none, 0⟩, rfl, RowOf.nil w⟩
  · refine ⟨⟨some ⟨g, 0, none⟩, cap⟩, rfl, .inr ⟨_, rfl, h3, h4, fun i x hx j u hu => ?_⟩⟩
    have hi : i < l.length := (List.getElem?_eq_some_iff.1 hx).1
    have hj : j < size := by rw [← henc x]; exact (List.getElem?_eq_some_iff.1 hu).1
    rw [Addr.add_mid, Nat.zero_add, Addr.add_mid, cell_of_row _ _ _ _ _ _ h2]
    have hf := flat_at henc l i x hx
    rw [← h6] at hf
    rw [← hf] at hu
    have hlt : i * size + j < l.length * size := by
      have : (i + 1) * size ≤ l.length * size := Nat.mul_le_mul_right _ hi
      rw [Nat.add_mul, Nat.one_mul] at this
      omega
    rw [List.getElem?_take, if_pos hj, List.getElem?_drop, List.getElem?_take, if_pos hlt, Array.getElem?_toList] at hu
    exact hu
end
end Gath
namespace Ph
open Go Go.RowKit
section
variable {P : Program} {ops : Array Oper} {md : Region.Mode} {D : Nat → World → Prop} {cs : List Nat}
/-- The first p of the chain have come up, and no other of it. -/
def Upto (cs : List Nat) (p : Nat) (L : Array Bool) : Prop := ∀ q c, cs[q]? = some c → L.getD c false = decide (q < p)
def Cl (D : Nat → World → Prop) (cs : List Nat) (L : Array Bool) (w : World) : Prop := ∃ p, p ≤ cs.length ∧ Upto cs p L ∧ D p w
def upon (P : Program) (C : World → Prop) (w : World) (v : Value) : Result Next → Prop
  | .ok (.value u) w' => w' = w ∧ u = v ∧ C w
  | .ok .skip w' => v = undef ∧ C w'
  | .ok (.enter f args) w' => w' = w ∧ Calls P f args w (fun e w'' => e = .returned v ∧ C w'')
  | _ => False
def Steps (P : Program) (md : Region.Mode) (ops : Array Oper) (D : Nat → World → Prop) (cs : List Nat) (i : Nat) (o : Oper) (a : Act) (v : Value) : Prop :=
  ∀ L w, L.size = ops.size → i ∈ Region.ready md ops L → Cl D cs L w → upon P (Cl D cs (L.setIfInBounds i true)) w v ((execOp a.eval o).run P w)
def Passes (md : Region.Mode) (ops : Array Oper) (D : Nat → World → Prop) (cs : List Nat) (i : Nat) : Prop :=
  ∀ L w, L.size = ops.size → i ∈ Region.ready md ops L → Cl D cs L w → Cl D cs (L.setIfInBounds i true) w
def pOp (P : Program) (md : Region.Mode) (ops : Array Oper) (D : Nat → World → Prop) (cs : List Nat) (i : Nat) (K : Act → Prop) (a : Act) : Prop :=
  match ops[i]? with
  | none => False
  | some o => if Region.wanted o (yielded ops a.tmps) then ∃ v, Steps P md ops D cs i o a v ∧ K (a.put o.dst v) else Passes md ops D cs i ∧ K (a.put o.dst undef)
theorem pOp_mono {i : Nat} {a : Act} {K K' : Act → Prop} (h : ∀ a, K a → K' a) (hh : pOp P md ops D cs i K a) : pOp P md ops D cs i K' a := by
  unfold pOp at *
  split
  · rename_i ho; simp only [ho] at hh
  · rename_i o ho
    simp only [ho] at hh
    split
    · rename_i hw; simp only [hw, if_true] at hh; exact ⟨hh.choose, hh.choose_spec.1, h _ hh.choose_spec.2⟩
    · rename_i hw; simp only [hw] at hh; exact ⟨hh.1, h _ hh.2⟩
def wpAnyP (P : Program) (md : Region.Mode) (ops : Array Oper) (D : Nat → World → Prop) (cs : List Nat) (Q : Array Bool → Act → Prop) : Nat → Array Bool → Act → Prop
  | 0, listed, a => Region.ready md ops listed = [] ∧ Q listed a
  | fuel + 1, listed, a =>
    Region.ready md ops listed ≠ [] ∧
    ∀ i ∈ Region.ready md ops listed, pOp P md ops D cs i (wpAnyP P md ops D cs Q fuel (listed.setIfInBounds i true)) a
theorem wpAny_of_ph {Q : Array Bool → Act → Prop} {Q' : Exit → Act → World → Prop} (hQ : ∀ L a w, Cl D cs L w → Q L a → Q' .normal a w) : ∀ (fuel : Nat) (listed : Array Bool) (a : Act) (w : World), listed.size = ops.size → Cl D cs listed w →
    wpAnyP P md ops D cs Q fuel listed a → wpAny P md ops Q' fuel listed a w
  | 0, _, _, _, _, hw, h => ⟨h.1, hQ _ _ _ hw h.2⟩
  | fuel + 1, listed, a, w, hsz, hw, h => ⟨fun h0 => absurd h0 h.1, fun i hi => by
      have h1 := h.2 i hi
      unfold pOp at h1
      unfold wpOp
      split
      · rename_i ho; simp only [ho] at h1
      · rename_i o ho
        simp only [ho] at h1
        split
        · rename_i hwt
          simp only [hwt, if_true] at h1
          obtain ⟨v, hst, hK⟩ := h1
          refine .inl ?_
          have h2 := hst listed w hsz hi hw
          unfold Oper.wp
          generalize (execOp a.eval o).run P w = r at *
          have hsz' : (listed.setIfInBounds i true).size = ops.size := by simpa using hsz
          cases r with
          | ok n w' =>
            cases n <;> simp only [upon] at h2 <;> simp only [Oper.upon]
            case value u =>
              obtain ⟨rfl, rfl, hC⟩ := h2
              exact wpAny_of_ph hQ fuel _ _ _ hsz' hC hK
            case skip =>
              obtain ⟨rfl, hC⟩ := h2
              exact wpAny_of_ph hQ fuel _ _ _ hsz' hC hK
            case enter f args =>
              obtain ⟨rfl, hc⟩ := h2
              exact hc.mono fun e w'' ⟨he, hC⟩ => by subst he; exact wpAny_of_ph hQ fuel _ _ _ hsz' hC hK
          | halt x w' => simp only [upon] at h2
        · rename_i hwt
          simp only [hwt] at h1
          exact wpAny_of_ph hQ fuel _ _ _ (by simpa using hsz) (h1.1 listed w hsz hi hw) h1.2⟩
def YieldsP (P : Program) (md : Region.Mode) (ops : Array Oper) (D : Nat → World → Prop) (cs : List Nat) (i : Nat) (o : Oper) (v : Value) (a : Act) : Prop :=
  (Region.wanted o (yielded ops a.tmps) = true ∧ Steps P md ops D cs i o a v) ∨ (Region.wanted o (yielded ops a.tmps) = false ∧ v = undef ∧ Passes md ops D cs i)
theorem YieldsP.pOp {i : Nat} {o : Oper} {v : Value} {a : Act} (hi : ops[i]? = some o) (hy : YieldsP P md ops D cs i o v a) {K : Act → Prop} (h : K (a.put o.dst v)) : pOp P md ops D cs i K a := by
  unfold Ph.pOp
  simp only [hi]
  rcases hy with ⟨hw, hv⟩ | ⟨hw, rfl, hp⟩
  · simp only [hw, if_true]; exact ⟨v, hv, h⟩
  · simp only [hw, Bool.false_eq_true, if_false]; exact ⟨hp, h⟩
theorem YieldsP.of_same {i : Nat} {o : Oper} {v : Value} {a a' : Act} (hy : YieldsP P md ops D cs i o v a) (he : execOp a'.eval o = execOp a.eval o)
    (hw : Region.wanted o (yielded ops a'.tmps) = Region.wanted o (yielded ops a.tmps)) : YieldsP P md ops D cs i o v a' := by
  unfold YieldsP Steps at *
  rw [he, hw]
  exact hy
theorem yieldsP_of_pOp {i : Nat} {o : Oper} {a : Act} {K : Act → Prop} (hi : ops[i]? = some o) (h : pOp P md ops D cs i K a) : ∃ v, YieldsP P md ops D cs i o v a ∧ K (a.put o.dst v) := by
  unfold pOp at h
  simp only [hi] at h
  by_cases hw : Region.wanted o (yielded ops a.tmps) = true
  · simp only [hw, if_true] at h
    obtain ⟨v, h1, h2⟩ := h
    exact ⟨v, .inl ⟨hw, h1⟩, h2⟩
  · simp only [hw] at h
    exact ⟨undef, .inr ⟨by simpa using hw, rfl, h.1⟩, h.2⟩
theorem pOp_put {i j : Nat} {oi oj : Oper} {v : Value} (hj : ops[j]? = some oj) (hap : oi.apart ops oj = true)
    (hsi : ∀ cs b, oi.op ≠ .select cs b) (hsj : ∀ cs b, oj.op ≠ .select cs b) {K : Act → Prop} {a : Act}
    (hy : YieldsP P md ops D cs i oi v a) (h : pOp P md ops D cs j K (a.put oi.dst v)) :
    pOp P md ops D cs j (fun a' => YieldsP P md ops D cs i oi v a' ∧ K (a'.put oi.dst v)) a := by
  obtain ⟨h1, h2, h3⟩ := Oper.apart_spec hap
  have keep : ∀ (a : Act), YieldsP P md ops D cs i oi v a → ∀ u, YieldsP P md ops D cs i oi v (a.put oj.dst u) := fun a hy u =>
    hy.of_same (execOp_put oi hsi a oj.dst u h3) (wanted_put oi a oj.dst u h3)
  unfold pOp at *
  simp only [hj] at *
  rw [wanted_put oj a oi.dst v h1] at h
  split
  · rename_i hw
    simp only [hw, if_true] at h
    obtain ⟨u, hu, hn⟩ := h
    refine ⟨u, ?_, keep a hy u, by rw [← Act.put_comm a v u h2]; exact hn⟩
    unfold Steps at *
    rwa [execOp_put oj hsj a oi.dst v h1] at hu
  · rename_i hw
    simp only [hw] at h
    exact ⟨h.1, keep a hy _, by rw [← Act.put_comm a v undef h2]; exact h.2⟩
theorem wpAnyP_first {Q : Array Bool → Act → Prop} {i : Nat} {oi : Oper} {v : Value} (hi : ops[i]? = some oi) (hsel : ∀ (j : Nat) (o : Oper) cs b, ops[j]? = some o → o.op ≠ .select cs b) :
    ∀ (fuel : Nat) (listed : Array Bool) (a : Act),
      (∀ j oj, ops[j]? = some oj → j ≠ i → listed.getD j true = false → (∀ e ∈ oj.after, Region.binds md e = true → e.on ≠ i) → oi.apart ops oj = true) →
      i ∈ Region.ready md ops listed → YieldsP P md ops D cs i oi v a →
      wpAnyP P md ops D cs Q fuel (listed.setIfInBounds i true) (a.put oi.dst v) → wpAnyP P md ops D cs Q (fuel + 1) listed a := by
  intro fuel
  induction fuel with
  | zero =>
    intro listed a _ hr hy H
    refine ⟨fun h => (by rw [h] at hr; cases hr), fun j hj => ?_⟩
    by_cases hji : j = i
    · subst hji; exact hy.pOp hi H
    · have := ready_mono hj hji
      rw [H.1] at this
      cases this
  | succ fuel ih =>
    intro listed a hfree hr hy H
    refine ⟨fun h => (by rw [h] at hr; cases hr), fun j hj => ?_⟩
    by_cases hji : j = i
    · subst hji; exact hy.pOp hi H
    · have h1 := H.2 j (ready_mono hj hji)
      obtain ⟨hjun, oj, hoj, hall⟩ := mem_ready.1 hj
      have hnot : ∀ e ∈ oj.after, Region.binds md e = true → e.on ≠ i := fun e he hb heq => by
        have h1 := hall e he hb
        have h0 := (mem_ready.1 hr).1
        rw [heq] at h1
        rcases Nat.lt_or_ge i listed.size with h' | h'
        · simp [h'] at h0 h1; rw [h0] at h1; cases h1
        · simp [Array.getElem?_eq_none h'] at h1
      have h2 := pOp_put hoj (hfree j oj hoj hji hjun hnot) (fun cs b => hsel i oi cs b hi) (fun cs b => hsel j oj cs b hoj) hy h1
      have hfree' : ∀ k ok, ops[k]? = some ok → k ≠ i → (listed.setIfInBounds j true).getD k true = false →
          (∀ e ∈ ok.after, Region.binds md e = true → e.on ≠ i) → oi.apart ops ok = true := fun k ok hk hki hun hno => by
        refine hfree k ok hk hki ?_ hno
        by_cases hjk : j = k
        · subst hjk; exact hjun
        · rw [getD_set_ne true hjk] at hun; exact hun
      refine pOp_mono (fun a' h3 => ih (listed.setIfInBounds j true) a' hfree' (ready_mono hr (Ne.symm hji)) h3.1 ?_) h2
      rw [Array.setIfInBounds_comm _ _ hji]
      exact h3.2
/-- A world, and how far the chain has come. -/
structure S (D : Nat → World → Prop) where
  ph : Nat
  world : World
  is : D ph world
/-- An operation that reads, the same value in every phase; a call may leave another world of the phase. -/
def Oper.calmUpon (P : Program) (C : World → Prop) (w : World) (v : Value) : Result Next → Prop
  | .ok (.value u) w' => w' = w ∧ u = v
  | .ok .skip w' => w' = w ∧ v = undef
  | .ok (.enter f args) w' => w' = w ∧ Calls P f args w (fun e w'' => e = .returned v ∧ C w'')
  | _ => False
def Oper.calm (P : Program) (o : Oper) (a : Act) (D : Nat → World → Prop) (next : Act → Prop) : Prop := ∃ v, (∀ p : S D, Oper.calmUpon P (D p.ph) p.world v ((execOp a.eval o).run P p.world)) ∧ next (a.put o.dst v)
/-- The chain's operation number p. -/
def Oper.linkUpon (P : Program) (C : World → Prop) (w : World) (v : Value) : Result Next → Prop
  | .ok .skip w' => v = undef ∧ C w'
  | .ok (.enter f args) w' => w' = w ∧ Calls P f args w (fun e w'' => e = .returned v ∧ C w'')
  | _ => False
def Oper.link (P : Program) (o : Oper) (a : Act) (C C' : World → Prop) (next : Act → Prop) : Prop := ∃ v, (∀ w, C w → Oper.linkUpon P C' w v ((execOp a.eval o).run P w)) ∧ next (a.put o.dst v)
/-- The lexical walk. -/
def wpPh (P : Program) (ops : Array Oper) (D : Nat → World → Prop) (cs : List Nat) (Q : Act → Prop) : Nat → List Oper → Act → Prop
  | _, [], a => Q a
  | k, o :: rest, a =>
    match cs.idxOf? k with
    | some p => Region.wanted o (yielded ops a.tmps) = true ∧ Oper.link P o a (D p) (D (p + 1)) (wpPh P ops D cs Q (k + 1) rest)
    | none => if Region.wanted o (yielded ops a.tmps) then Oper.calm P o a D (wpPh P ops D cs Q (k + 1) rest) else wpPh P ops D cs Q (k + 1) rest (a.put o.dst undef)
theorem upto_other {p k : Nat} {L : Array Bool} (hk : k ∉ cs) (h : Upto cs p L) : Upto cs p (L.setIfInBounds k true) := by
  intro q c hq
  have hne : k ≠ c := fun e => hk (by rw [e]; exact List.mem_of_getElem? hq)
  rw [getD_set_ne false hne]; exact h q c hq
theorem steps_of_calm {k : Nat} {o : Oper} {a : Act} {v : Value} (hk : k ∉ cs) (h : ∀ p : S D, Oper.calmUpon P (D p.ph) p.world v ((execOp a.eval o).run P p.world)) : Steps P md ops D cs k o a v := by
  intro L w _ _ ⟨p, hp, hat, hd⟩
  have h1 := h ⟨p, w, hd⟩
  simp only at h1
  generalize (execOp a.eval o).run P w = r at *
  cases r with
  | ok n w' =>
    cases n <;> simp only [Oper.calmUpon] at h1 <;> simp only [upon]
    case value u => exact ⟨h1.1, h1.2, p, hp, upto_other hk hat, hd⟩
    case skip => exact ⟨h1.2, p, hp, upto_other hk hat, by rw [h1.1]; exact hd⟩
    case enter f args => exact ⟨h1.1, h1.2.mono fun e w'' ⟨he, hd'⟩ => ⟨he, p, hp, upto_other hk hat, hd'⟩⟩
  | halt x w' => simp only [Oper.calmUpon] at h1
theorem passes_of {k : Nat} (hk : k ∉ cs) : Passes md ops D cs k := fun L w _ _ ⟨p, hp, hat, hd⟩ => ⟨p, hp, upto_other hk hat, hd⟩
def chainOk (md : Region.Mode) (ops : Array Oper) (cs : List Nat) : Bool :=
  decide cs.Nodup && (List.range cs.length).all fun p => decide (p = 0) || Region.waitsFor md ops (cs.getD p 0) (cs.getD (p - 1) 0)
theorem steps_of_link {k p : Nat} {o : Oper} {a : Act} {v : Value} (hc : chainOk md ops cs = true) (hk : cs[p]? = some k)
    (h : ∀ w, D p w → Oper.linkUpon P (D (p + 1)) w v ((execOp a.eval o).run P w)) : Steps P md ops D cs k o a v := by
  intro L w hsz hr ⟨p', hp, hat, hd⟩
  simp only [chainOk, Bool.and_eq_true, decide_eq_true_eq] at hc
  obtain ⟨hnd, hall⟩ := hc
  have hpl : p < cs.length := (List.getElem?_eq_some_iff.1 hk).1
  obtain ⟨hun, ok, hok, hedges⟩ := mem_ready.1 hr
  have hkl : k < L.size := by rw [hsz]; exact (Array.getElem?_eq_some_iff.1 hok).1
  have h1 := hat p k hk
  rw [getD_both hun] at h1
  have h2 : ¬ p < p' := fun hlt => by rw [decide_eq_true hlt] at h1; cases h1
  have h3 : p ≤ p' := by
    by_cases h0 : p = 0
    · omega
    · have h4 := List.all_eq_true.1 hall p (List.mem_range.2 hpl)
      simp only [Bool.or_eq_true, decide_eq_true_eq] at h4
      rcases h4 with h4 | h4
      · omega
      · rw [List.getD_eq_getElem?_getD, hk, Option.getD_some] at h4
        obtain ⟨oj, hoj, e, he, hb, hon⟩ := Region.waitsFor_spec h4
        have : oj = ok := Option.some.inj (hoj.symm.trans hok)
        subst this
        have h5 := hedges e he hb
        have h6 : cs[p - 1]? = some (cs.getD (p - 1) 0) := by
          rw [List.getD_eq_getElem?_getD, List.getElem?_eq_getElem (show p - 1 < cs.length by omega)]; rfl
        have h7 := hat (p - 1) _ h6
        rw [← hon, h5] at h7
        have := of_decide_eq_true h7.symm
        omega
  obtain rfl : p' = p := by omega
  have hnew : Upto cs (p' + 1) (L.setIfInBounds k true) := by
    intro q c hq
    by_cases hck : k = c
    · subst hck
      have hqp : q = p' := by
        have hql : q < cs.length := (List.getElem?_eq_some_iff.1 hq).1
        have e1 : cs[q] = cs[p'] := by
          have a1 := List.getElem?_eq_some_iff.1 hq
          have a2 := List.getElem?_eq_some_iff.1 hk
          rw [a1.2, a2.2]
        have h10 := List.pairwise_iff_getElem.1 hnd
        rcases Nat.lt_trichotomy q p' with h11 | h11 | h11
        · exact absurd e1 (h10 q p' hql hpl h11)
        · exact h11
        · exact absurd e1.symm (h10 p' q hpl hql h11)
      subst hqp
      rw [decide_eq_true (by omega)]
      simp [hkl]
    · rw [getD_set_ne false hck, hat q c hq]
      have hqp : q ≠ p' := fun e => by subst e; rw [hk] at hq; exact hck (Option.some.inj hq)
      by_cases h8 : q < p'
      · rw [decide_eq_true h8, decide_eq_true (by omega)]
      · rw [decide_eq_false h8, decide_eq_false (by omega)]
  have h9 := h w hd
  generalize (execOp a.eval o).run P w = r at *
  cases r with
  | ok n w' =>
    cases n <;> simp only [Oper.linkUpon] at h9 <;> simp only [upon]
    case skip => exact ⟨h9.1, p' + 1, by omega, hnew, h9.2⟩
    case enter f args => exact ⟨h9.1, h9.2.mono fun e w'' ⟨he, hd'⟩ => ⟨he, p' + 1, by omega, hnew, hd'⟩⟩
  | halt x w' => simp only [Oper.linkUpon] at h9
def lexFromP (md : Region.Mode) (ops : Array Oper) (cs : List Nat) : Nat → Nat → Array Bool → Bool
  | 0, _, listed => (Region.ready md ops listed).isEmpty && cs.all fun c => listed.getD c false
  | fuel + 1, k, listed => (Region.ready md ops listed).contains k && Region.free md ops listed k && lexFromP md ops cs fuel (k + 1) (listed.setIfInBounds k true)
theorem idxOf_some {k p : Nat} (h : cs.idxOf? k = some p) : cs[p]? = some k := by
  have h1 := List.findIdx?_eq_some_iff_getElem.1 (by simpa [List.idxOf?] using h)
  obtain ⟨hp, h2, _⟩ := h1
  rw [List.getElem?_eq_getElem hp]
  simpa using h2
theorem idxOf_none {k : Nat} (h : cs.idxOf? k = none) : k ∉ cs := by
  intro hm
  have h1 : ∀ x ∈ cs, ¬ x = k := by simpa [List.idxOf?] using h
  exact h1 k hm rfl
theorem wpAnyP_lex {Q : Act → Prop} (hs : Region.noSelect ops = true) (hc : chainOk md ops cs = true) : ∀ (l : List Oper) (k : Nat) (listed : Array Bool) (a : Act), (∀ j, l[j]? = ops[k + j]?) →
    lexFromP md ops cs l.length k listed = true → wpPh P ops D cs Q k l a → wpAnyP P md ops D cs (fun L a => (cs.all fun c => L.getD c false) = true ∧ Q a) l.length listed a
  | [], _, _, _, _, hB, h => by
    simp only [List.length_nil, lexFromP, Bool.and_eq_true] at hB
    exact ⟨by simpa using hB.1, hB.2, h⟩
  | o :: l, k, listed, a, hl, hB, h => by
    have h0 : ops[k]? = some o := by simpa using (hl 0).symm
    simp only [List.length_cons, lexFromP, Bool.and_eq_true] at hB
    obtain ⟨⟨hr, hf⟩, hB'⟩ := hB
    have hst : pOp P md ops D cs k (wpPh P ops D cs Q (k + 1) l) a := by
      unfold pOp
      simp only [h0]
      unfold wpPh at h
      split at h
      · rename_i p hp
        obtain ⟨hw, v, h1, h2⟩ := h
        rw [if_pos hw]
        exact ⟨v, steps_of_link hc (idxOf_some hp) h1, h2⟩
      · rename_i hp
        have hk := idxOf_none hp
        split
        · rename_i hw
          rw [if_pos hw] at h
          obtain ⟨v, h1, h2⟩ := h
          exact ⟨v, steps_of_calm hk h1, h2⟩
        · rename_i hw
          rw [if_neg hw] at h
          exact ⟨passes_of hk, h⟩
    obtain ⟨v, hy, hK⟩ := yieldsP_of_pOp h0 hst
    exact wpAnyP_first h0 (Region.noSelect_spec hs) l.length listed a (Region.free_spec h0 hf) (by simpa using hr) hy
      (wpAnyP_lex hs hc l (k + 1) _ _ (fun j => by have := hl (j + 1); simpa [Nat.add_assoc, Nat.add_comm 1 j] using this) hB' hK)
def okB (md : Region.Mode) (ops : Array Oper) (cs : List Nat) : Bool := Region.noSelect ops && chainOk md ops cs && lexFromP md ops cs ops.size 0 (Array.replicate ops.size false)
/-- **The law.** What stands behind the region is asked in every world in which the chain has come to its end. -/
theorem wp_region_ph {id : Nat} {Q : Exit → Act → World → Prop} {a : Act} {w : World} {l : List Oper} (D : Nat → World → Prop) (cs : List Nat) (hm : P.follows .mixedOrders = true) (hB : okB .any l.toArray cs = true) (hD : D 0 w.drew)
    (h : wpPh P l.toArray D cs (fun a' => ∀ w', D cs.length w' → Q .normal a' w') 0 l a) : (Code.region id l.toArray true).wp P Q a w := by
  simp only [okB, Bool.and_eq_true] at hB
  obtain ⟨⟨hs, hc⟩, hlex⟩ := hB
  have h1 := wpAnyP_lex (md := .any) hs hc l 0 (Array.replicate l.toArray.size false) a (by simp) (by simpa using hlex) h
  refine wp_region_any hm ?_
  refine wpAny_of_ph (D := D) (cs := cs) (Q := fun L a => (cs.all fun c => L.getD c false) = true ∧ ∀ w', D cs.length w' → Q .normal a w') (fun L a w ⟨p, hp, hat, hd⟩ ⟨hall, hq⟩ => ?_) _ _ _ _ (by simp) ⟨0, Nat.zero_le _, fun q c _ => by rw [getD_replicate_false]; simp, hD⟩ (by simpa using h1)
  have hpe : p = cs.length := by
    rcases Nat.lt_or_ge p cs.length with h2 | h2
    · have h3 := hat p _ (List.getElem?_eq_getElem h2)
      have h4 := List.all_eq_true.1 hall _ (List.getElem_mem h2)
      rw [h4] at h3
      have := of_decide_eq_true h3.symm
      omega
    · omega
  subst hpe
  exact hq w hd
/-! the walk, a step at a time -/
theorem wpPh_nil {Q : Act → Prop} {k : Nat} {a : Act} (h : Q a) : wpPh P ops D cs Q k [] a := h
theorem wpPh_calm {Q : Act → Prop} {k : Nat} {a : Act} {o : Oper} {rest : List Oper} (hk : cs.idxOf? k = none)
    (h : ∀ K : Act → Prop, (∀ a, wpPh P ops D cs Q (k + 1) rest a → K a) → if Region.wanted o (yielded ops a.tmps) then Oper.calm P o a D K else K (a.put o.dst undef)) : wpPh P ops D cs Q k (o :: rest) a := by
  unfold wpPh
  simp only [hk]
  exact h _ fun _ h => h
theorem wpPh_link {Q : Act → Prop} {k p : Nat} {a : Act} {o : Oper} {rest : List Oper} (hk : cs.idxOf? k = some p)
    (h : ∀ K : Act → Prop, (∀ a, wpPh P ops D cs Q (k + 1) rest a → K a) → Region.wanted o (yielded ops a.tmps) = true ∧ Oper.link P o a (D p) (D (p + 1)) K) : wpPh P ops D cs Q k (o :: rest) a := by
  unfold wpPh
  simp only [hk]
  exact h _ fun _ h => h
end
attribute [go_sem] Oper.calm Oper.calmUpon Oper.link Oper.linkUpon
end Ph
namespace Row
open Go Go.RowKit
open Tab
section
variable {P : Program}
theorem run_loadVar_lies (w : World) (y : Addr) (ty : TypeId) (cs : List Value) (d : TypeDesc) (hc : Lies w y cs) (hu : P.underlying ty = some d) (hd : d.isRow = true) (hi : (P.info? ty).map (·.size) = some cs.length) :
    (loadVar ty y).run P w = .ok (.agg cs.toArray) w := by
  have hl : (loadCells y cs.length).run P w = .ok cs.toArray w := run_loadCells_list (P := P) w y cs (fun j v hv => hc j v hv)
  cases hq : P.info? ty with
  | none => simp [hq] at hi
  | some i =>
    have hs : i.size = cs.length := by simpa [hq] using hi
    have hagg : (isAgg ty).run P w = .ok true w := by
      unfold isAgg
      rw [Sem.run_bind, run_underlying hu w]
      cases d <;> simp_all
    simp [loadVar, Sem.run_bind, hagg, sizeOf, typeInfo, hq, hs, hl]
theorem wp_load_lies {op : Oper} {a : Act} {w : World} {K : Act → World → Prop} {Q : Exit → Act → World → Prop} (ty : TypeId) (x : Operand) (ho : op.op = .load ty x)
    (y : Addr) (hx : a.eval x = .pointer (some y)) (cs : List Value) (d : TypeDesc) (hc : Lies w y cs) (hu : P.underlying ty = some d) (hd : d.isRow = true) (hi : (P.info? ty).map (·.size) = some cs.length)
    (h : K (a.put op.dst (.agg cs.toArray)) w) : op.wp P a w K Q := by
  unfold Oper.wp execOp
  simp only [ho, hx, Instr.loadAt, Instr.sureAddr, Sem.run_bind, Sem.run_pure, Result.andThen_ok, run_loadVar_lies w y ty cs d hc hu hd hi]
  exact h
theorem wpList_load_lies {ops : Array Oper} {rest : List Oper} {op : Oper} {a : Act} {w : World} {Q : Exit → Act → World → Prop} (hgd : op.guard = none) (ty : TypeId) (x : Operand) (ho : op.op = .load ty x)
    (y : Addr) (hx : a.eval x = .pointer (some y)) (cs : List Value) (d : TypeDesc) (hc : Lies w y cs) (hu : P.underlying ty = some d) (hd : d.isRow = true) (hi : (P.info? ty).map (·.size) = some cs.length)
    (h : wpList P ops Q rest (a.put op.dst (.agg cs.toArray)) w) : wpList P ops Q (op :: rest) a w :=
  wpList_plain hgd fun _ hK => wp_load_lies ty x ho y hx cs d hc hu hd hi (hK _ _ h)
/-- Behind a guard that says yes. -/
theorem wpList_load_g {ops : Array Oper} {rest : List Oper} {op : Oper} {a : Act} {w : World} {Q : Exit → Act → World → Prop} (ty : TypeId) (x : Operand) (ho : op.op = .load ty x) (hw : Region.wanted op (yielded ops a.tmps) = true)
    (y : Addr) (hx : a.eval x = .pointer (some y)) (cs : List Value) (d : TypeDesc) (hc : Lies w y cs) (hu : P.underlying ty = some d) (hd : d.isRow = true) (hi : (P.info? ty).map (·.size) = some cs.length)
    (h : wpList P ops Q rest (a.put op.dst (.agg cs.toArray)) w) : wpList P ops Q (op :: rest) a w :=
  BigFrame.wpList_want hw fun _ hK => wp_load_lies ty x ho y hx cs d hc hu hd hi (hK _ _ h)
/-- A whole row into the block that was made last. -/
theorem wpList_store_new {ops : Array Oper} {rest : List Oper} {op : Oper} {a : Act} {w : World} {Q : Exit → Act → World → Prop} (hgd : op.guard = none) (ty : TypeId) (x y : Operand) (ho : op.op = .store ty x y)
    (w0 : World) (old cells : Array Value) (hw : w = w0.alloc (.cells old ty)) (hx : a.eval x = .pointer (some ⟨w0.heap.size, 0, none⟩)) (hy : a.eval y = .agg cells) (hi : (P.info? ty).map (·.size) = some cells.size) (hold : old.size = cells.size) (h1 : cells.all (·.oneCell') = true)
    (h : wpList P ops Q rest (a.put op.dst undef) (w0.alloc (.cells cells ty))) : wpList P ops Q (op :: rest) a w := by
  subst hw
  refine wpList_store_row hgd ty x y ho w0.heap.size cells hx hy ty old (heap_alloc_new w0 _) hi hold h1 ?_
  rw [World.setRow_alloc_new]
  exact h
theorem lies_new (w : World) (cs : Array Value) (t : TypeId) : Lies (w.alloc (.cells cs t)) ⟨w.heap.size, 0, none⟩ cs.toList := fun j v hv => by
  rw [Addr.add_mid, cell_of_row _ _ _ _ _ _ (heap_alloc_new w _), Nat.zero_add]
  simpa using hv
theorem lies_of_block {w : World} {g : Nat} {cs : Array Value} {t : TypeId} {fr : Nat × Nat} (hg : w.heap[g]? = some (.cells cs t fr)) : Lies w ⟨g, 0, none⟩ cs.toList := fun j v hv => by
  rw [Addr.add_mid, cell_of_row _ _ _ _ _ _ hg, Nat.zero_add]
  simpa using hv
/-- In a region that draws. -/
theorem wpPh_load {D : Nat → World → Prop} {ns : List Nat} {ops : Array Oper} {Q : Act → Prop} {k : Nat} {a : Act} {o : Oper} {rest : List Oper} (hk : ns.idxOf? k = none) (hw : Region.wanted o (yielded ops a.tmps) = true)
    (ty : TypeId) (x : Operand) (ho : o.op = .load ty x) (y : Addr) (hx : a.eval x = .pointer (some y)) (cs : List Value) (d : TypeDesc) (hc : ∀ p : Ph.S D, Lies p.world y cs)
    (hu : P.underlying ty = some d) (hd : d.isRow = true) (hi : (P.info? ty).map (·.size) = some cs.length) (h : Ph.wpPh P ops D ns Q (k + 1) rest (a.put o.dst (.agg cs.toArray))) : Ph.wpPh P ops D ns Q k (o :: rest) a := by
  refine Ph.wpPh_calm hk fun K hK => ?_
  rw [if_pos hw]
  refine ⟨_, fun p => ?_, hK _ h⟩
  unfold execOp
  simp only [ho, hx, Instr.loadAt, Instr.sureAddr, Sem.run_bind, Sem.run_pure, Result.andThen_ok, run_loadVar_lies p.world y ty cs d (hc p) hu hd hi]
  exact ⟨rfl, rfl⟩
/-! ### two rows compared -/
theorem run_eql_op (w : World) {a : Act} {o : Oper} (t : TypeId) (x y : Operand) (t2 : TypeId) (ho : o.op = .binOp .eql t x y t2) (xs ys : Array Value) (hx : a.eval x = .agg xs) (hy : a.eval y = .agg ys) (hg : P.eqGuardType P.depth t = false) (b : Bool)
    (he : ∀ w, (Op.equalIn 10000 t (.agg xs) (.agg ys)).run P w = .ok b w) : (execOp a.eval o).run P w = .ok (.value (.bool b)) w := by
  unfold execOp
  simp only [ho, hx, hy, Sem.run_bind, run_eqGuard_agg w .eql t x y xs ys hg, Result.andThen_ok, run_eql_struct, he w, Sem.run_pure]
theorem run_neq_op (w : World) {a : Act} {o : Oper} (t : TypeId) (x y : Operand) (t2 : TypeId) (ho : o.op = .binOp .neq t x y t2) (xs ys : Array Value) (hx : a.eval x = .agg xs) (hy : a.eval y = .agg ys) (hg : P.eqGuardType P.depth t = false) (b : Bool)
    (he : ∀ w, (Op.equalIn 10000 t (.agg xs) (.agg ys)).run P w = .ok b w) : (execOp a.eval o).run P w = .ok (.value (.bool (!b))) w := by
  unfold execOp
  simp only [ho, hx, hy, Sem.run_bind, run_eqGuard_agg w .neq t x y xs ys hg, Result.andThen_ok, run_neq_struct, he w, Sem.run_pure]
theorem wpList_eql {ops : Array Oper} {rest : List Oper} {o : Oper} {a : Act} {w : World} {Q : Exit → Act → World → Prop} (t : TypeId) (x y : Operand) (t2 : TypeId) (ho : o.op = .binOp .eql t x y t2) (hw : Region.wanted o (yielded ops a.tmps) = true)
    (xs ys : Array Value) (hx : a.eval x = .agg xs) (hy : a.eval y = .agg ys) (hg : P.eqGuardType P.depth t = false) (b : Bool) (he : ∀ w, (Op.equalIn 10000 t (.agg xs) (.agg ys)).run P w = .ok b w)
    (h : wpList P ops Q rest (a.put o.dst (.bool b)) w) : wpList P ops Q (o :: rest) a w :=
  BigFrame.wpList_want hw fun _ hK => by
    unfold Oper.wp
    rw [run_eql_op w t x y t2 ho xs ys hx hy hg b he]
    exact hK _ _ h
theorem wpList_neq {ops : Array Oper} {rest : List Oper} {o : Oper} {a : Act} {w : World} {Q : Exit → Act → World → Prop} (t : TypeId) (x y : Operand) (t2 : TypeId) (ho : o.op = .binOp .neq t x y t2) (hw : Region.wanted o (yielded ops a.tmps) = true)
    (xs ys : Array Value) (hx : a.eval x = .agg xs) (hy : a.eval y = .agg ys) (hg : P.eqGuardType P.depth t = false) (b : Bool) (he : ∀ w, (Op.equalIn 10000 t (.agg xs) (.agg ys)).run P w = .ok b w)
    (h : wpList P ops Q rest (a.put o.dst (.bool (!b))) w) : wpList P ops Q (o :: rest) a w :=
  BigFrame.wpList_want hw fun _ hK => by
    unfold Oper.wp
    rw [run_neq_op w t x y t2 ho xs ys hx hy hg b he]
    exact hK _ _ h
theorem wpPh_eql {D : Nat → World → Prop} {ns : List Nat} {ops : Array Oper} {Q : Act → Prop} {k : Nat} {a : Act} {o : Oper} {rest : List Oper} (t : TypeId) (x y : Operand) (t2 : TypeId) (ho : o.op = .binOp .eql t x y t2) (hk : ns.idxOf? k = none) (hw : Region.wanted o (yielded ops a.tmps) = true)
    (xs ys : Array Value) (hx : a.eval x = .agg xs) (hy : a.eval y = .agg ys) (hg : P.eqGuardType P.depth t = false) (b : Bool) (he : ∀ w, (Op.equalIn 10000 t (.agg xs) (.agg ys)).run P w = .ok b w)
    (h : Ph.wpPh P ops D ns Q (k + 1) rest (a.put o.dst (.bool b))) : Ph.wpPh P ops D ns Q k (o :: rest) a := by
  refine Ph.wpPh_calm hk fun K hK => ?_
  rw [if_pos hw]
  refine ⟨_, fun p => ?_, hK _ h⟩
  rw [run_eql_op p.world t x y t2 ho xs ys hx hy hg b he]
  exact ⟨rfl, rfl⟩
theorem wpPh_neq {D : Nat → World → Prop} {ns : List Nat} {ops : Array Oper} {Q : Act → Prop} {k : Nat} {a : Act} {o : Oper} {rest : List Oper} (t : TypeId) (x y : Operand) (t2 : TypeId) (ho : o.op = .binOp .neq t x y t2) (hk : ns.idxOf? k = none) (hw : Region.wanted o (yielded ops a.tmps) = true)
    (xs ys : Array Value) (hx : a.eval x = .agg xs) (hy : a.eval y = .agg ys) (hg : P.eqGuardType P.depth t = false) (b : Bool) (he : ∀ w, (Op.equalIn 10000 t (.agg xs) (.agg ys)).run P w = .ok b w)
    (h : Ph.wpPh P ops D ns Q (k + 1) rest (a.put o.dst (.bool (!b)))) : Ph.wpPh P ops D ns Q k (o :: rest) a := by
  refine Ph.wpPh_calm hk fun K hK => ?_
  rw [if_pos hw]
  refine ⟨_, fun p => ?_, hK _ h⟩
  rw [run_neq_op p.world t x y t2 ho xs ys hx hy hg b he]
  exact ⟨rfl, rfl⟩
/-- A store of a row into the middle of a block known whole. -/
theorem run_storeAt_at (w : World) (g o : Nat) (t ty : TypeId) (cur cells : Array Value) (hg : w.heap[g]? = some (.cells cur t (0, 0))) (hi : (P.info? ty).map (·.size) = some cells.size) (hl : o + cells.size ≤ cur.size) (h1 : cells.all (·.oneCell') = true) :
    (Instr.storeAt ty (.pointer (some ⟨g, o, none⟩)) (.agg cells)).run P w = .ok () (w.setRow g (cur.toList.take o ++ cells.toList ++ cur.toList.drop (o + cells.size)).toArray) := by
  have := run_storeCells_at P g o t cells.toList 0 cur w hg (by simpa using hl) (fun v hv => (Array.all_eq_true_iff_forall_mem.1 h1) v (by simpa using hv))
  cases hq : P.info? ty with
  | none => simp [hq] at hi
  | some i =>
    have hs : cells.size = i.size := by simp [hq] at hi; omega
    simp only [Nat.add_zero, Array.length_toList] at this
    simp [Instr.storeAt, Instr.sureAddr, storeVar, sizeOf, typeInfo, hq, Value.cells, hs]
    rw [← hs]
    simpa using this
theorem wpPh_store {D : Nat → World → Prop} {ns : List Nat} {ops : Array Oper} {Q : Act → Prop} {k p : Nat} {a : Act} {o : Oper} {rest : List Oper} (hk : ns.idxOf? k = some p) (hw : Region.wanted o (yielded ops a.tmps) = true)
    (ty : TypeId) (x y : Operand) (ho : o.op = .store ty x y) (q v : Value) (hx : a.eval x = q) (hy : a.eval y = v) (hs : ∀ w, D p w → ∃ w', (Instr.storeAt ty q v).run P w = .ok () w' ∧ D (p + 1) w')
    (h : Ph.wpPh P ops D ns Q (k + 1) rest (a.put o.dst undef)) : Ph.wpPh P ops D ns Q k (o :: rest) a := by
  refine Ph.wpPh_link hk fun K hK => ⟨hw, undef, fun w hd => ?_, hK _ h⟩
  obtain ⟨w', hr, hd'⟩ := hs w hd
  unfold execOp
  simp only [ho, hx, hy, Sem.run_bind, hr, Result.andThen_ok, Sem.run_pure]
  exact ⟨rfl, hd'⟩
/-- The class of a region whose calls leave all that is older alone. -/
abbrev Old (w : World) : Nat → World → Prop := fun _ w' => Below w.heap.size w w'
theorem Old.call {w : World} {f : FuncId} {args : Array Value} {v : Value} {p : Ph.S (Old w)} (h : Calls P f args p.world fun e w'' => e = .returned v ∧ Below p.world.heap.size p.world w'') :
    Calls P f args p.world fun e w'' => e = .returned v ∧ Old w p.ph w'' :=
  h.mono fun _ _ ⟨he, hb⟩ => ⟨he, Below.trans p.is (hb.mono p.is.size)⟩
theorem Old.pure {w : World} {f : FuncId} {args : Array Value} {v : Value} {p : Ph.S (Old w)} (h : Calls P f args p.world fun e w'' => e = .returned v ∧ p.world = w'') :
    Calls P f args p.world fun e w'' => e = .returned v ∧ Old w p.ph w'' :=
  h.mono fun _ _ ⟨he, hb⟩ => ⟨he, hb ▸ p.is⟩
theorem Old.drew (w : World) : Old w 0 w.drew := (Below.refl _ _).drew
end
end Row
namespace May
open Go.ChangeShapes Go.WideShapes Go.ChangeAt Go.RowKit
open Tab
theorem ret_bool {a b : Bool} (h : a = b) : Ending.returned (.bool a) = .returned (.bool b) := by rw [h]
/-- Are all numbers from 0 to m? -/
def inB (m : Int) (n : Int) : Bool := decide (0 ≤ n) && decide (n ≤ m)
def allIn (m : Int) (l : List Int) : Bool := l.all (inB m)
theorem take_succ' {α : Type} (l : List α) (k : Nat) (v : α) (h : l[k]? = some v) : l.take (k + 1) = l.take k ++ [v] := by
  rw [List.take_add_one, h]; rfl
theorem all_step {α : Type} {f : α → Bool} {l : List α} {k : Nat} {v : α} (h : l[k]? = some v) (hk : (l.take k).all f = true) (hv : f v = true) : (l.take (k + 1)).all f = true := by
  rw [take_succ' l k v h, List.all_append, hk]; simp [hv]
theorem all_break {α : Type} {f : α → Bool} {l : List α} {k : Nat} {v : α} (h : l[k]? = some v) (hv : f v = false) : l.all f = false := by
  rw [List.all_eq_false]; exact ⟨v, List.mem_of_getElem? h, by simp [hv]⟩
theorem all_end {α : Type} {f : α → Bool} {l : List α} {k : Nat} (hk : (l.take k).all f = true) (h : ¬ k < l.length) : l.all f = true := by
  rwa [List.take_of_length_le (by omega)] at hk
theorem within_any (m : Int) (a : Option Addr) (cap : Nat) (l : List Int) (w : World) (h : IntRow w ⟨a, cap⟩ l) :
    Calls Try.prog 53 #[.int .i64 m, .slice a l.length cap] w fun e w' => e = .returned (.bool (allIn m l)) ∧ w = w' := by
  have h1 := h.len
  unfold maxLen at h1
  have Hr := Lib.hid h
  clear h
  go_enter Try.func53, Try.ntmps53
  go_wp2
  go_loop [9] (fun i => ∃ k : Nat, k ≤ l.length ∧ i = .int .i64 k ∧ (l.take k).all (inB m) = true) (fun i => l.length - (intOf i).toNat)
  case atStart => exact ⟨0, Nat.zero_le _, rfl, rfl⟩
  case round =>
    obtain ⟨k, hk, rfl, hall⟩ := hrel
    have Hall := Lib.hid hall
    clear hall
    by_cases hlt : k < l.length
    · have hv := List.getElem?_eq_getElem hlt
      generalize l[k] = v at hv
      obtain ⟨x, hx, hcell⟩ := Hr.out.at hv
      obtain rfl : a = some x := hx
      have HV := Lib.hid hv
      clear hv
      by_cases h0 : v < 0
      · go_wp2
        go_ret
        exact ⟨ret_bool (all_break HV.out (by unfold inB; rw [decide_eq_false (by omega)]; rfl)).symm, rfl⟩
      · by_cases hm : m < v
        · go_wp2
          go_ret
          exact ⟨ret_bool (all_break HV.out (by unfold inB; rw [decide_eq_false (p := v ≤ m) (by omega), Bool.and_false])).symm, rfl⟩
        · go_wp2
          go_round
          case rel => exact ⟨k + 1, by omega, by go_num, all_step HV.out Hall.out (by unfold inB; rw [decide_eq_true (by omega), decide_eq_true (by omega)]; rfl)⟩
          case measure => simp [intOf]; omega
    · go_wp2
      go_ret
      exact ⟨ret_bool (all_end Hall.out hlt).symm, rfl⟩
end May
end Go.Proofs.Ytambpohphbdhcaa
namespace Go.Proofs.Fl
open Ieee
abbrev D : Format := Ieee.double
theorem lp_eq : D.leastPlace = -1074 := by decide
theorem binade_eq : D.binade = 4503599627370496 := by decide
theorem inf_eq : D.infRung = 9218868437227405312 := by decide
theorem sw_eq : D.signWeight = 9223372036854775808 := by decide
theorem fb_eq : D.fractionBits = 52 := rfl
/-! rounding a natural number at a binary place -/
/-- v / 2^d, rounded to the nearest, between two to the even one -/
def rhe (v d : Nat) : Nat := v / 2 ^ d + (decide (2 ^ d < 2 * (v % 2 ^ d)) || (2 ^ d == 2 * (v % 2 ^ d) && v / 2 ^ d % 2 == 1)).toNat
theorem bt_le (b : Bool) : b.toNat ≤ 1 := by cases b <;> decide
theorem rhe_lo (v d : Nat) : v / 2 ^ d ≤ rhe v d := Nat.le_add_right _ _
theorem rhe_hi (v d : Nat) : rhe v d ≤ v / 2 ^ d + 1 := Nat.add_le_add_left (bt_le _) _
theorem rhe_zero (v : Nat) : rhe v 0 = v := by
  unfold rhe; simp [Nat.mod_one]
theorem rhe_exact (v d : Nat) (h : v % 2 ^ d = 0) : rhe v d = v / 2 ^ d := by
  have hp : 0 < 2 ^ d := Nat.two_pow_pos d
  unfold rhe; rw [h]
  simp
/-- monotone at one place -/
theorem rhe_mono (v v' d : Nat) (h : v ≤ v') : rhe v d ≤ rhe v' d := by
  have hp : 0 < 2 ^ d := Nat.two_pow_pos d
  have hq : v / 2 ^ d ≤ v' / 2 ^ d := Nat.div_le_div_right h
  by_cases e : v / 2 ^ d = v' / 2 ^ d
  · have h1 := Nat.div_add_mod v (2 ^ d)
    have h2 := Nat.div_add_mod v' (2 ^ d)
    have hr : v % 2 ^ d ≤ v' % 2 ^ d := by rw [e] at h1; omega
    unfold rhe
    rw [e]
    refine Nat.add_le_add_left ?_ _
    generalize v % 2 ^ d = r at *
    generalize v' % 2 ^ d = r' at *
    generalize 2 ^ d = g at *
    by_cases c1 : g < 2 * r'
    · rw [decide_eq_true c1]; simp; exact bt_le _
    · have c2 : ¬ g < 2 * r := by omega
      rw [decide_eq_false c1, decide_eq_false c2]
      by_cases c3 : g = 2 * r
      · have c4 : g = 2 * r' := by omega
        have : r = r' := by omega
        subst this; exact Nat.le_refl _
      · have c4 : (g == 2 * r) = false := beq_eq_false_iff_ne.2 c3
        rw [c4]; simp
  · exact Nat.le_trans (rhe_hi v d) (Nat.le_trans (by omega) (rhe_lo v' d))
/-- a common power of two falls out -/
theorem rhe_scale (v d k : Nat) : rhe (v * 2 ^ k) (d + k) = rhe v d := by
  have hk : 0 < 2 ^ k := Nat.two_pow_pos k
  unfold rhe
  rw [Nat.pow_add, Nat.mul_div_mul_right _ _ hk, Nat.mul_mod_mul_right]
  have e1 : decide (2 ^ d * 2 ^ k < 2 * (v % 2 ^ d * 2 ^ k)) = decide (2 ^ d < 2 * (v % 2 ^ d)) := by
    rw [← Nat.mul_assoc]; exact decide_eq_decide.2 (Nat.mul_lt_mul_right hk)
  have e2 : (2 ^ d * 2 ^ k == 2 * (v % 2 ^ d * 2 ^ k)) = (2 ^ d == 2 * (v % 2 ^ d)) := by
    rw [← Nat.mul_assoc, Bool.eq_iff_iff, beq_iff_eq, beq_iff_eq]
    exact ⟨fun h => Nat.eq_of_mul_eq_mul_right hk h, fun h => congrArg (· * 2 ^ k) h⟩
  rw [e1, e2]
/-- what 'cut' gives, to the even one -/
theorem cut_even (neg : Bool) (n drop : Nat) : Toward.even.cut neg n drop = rhe n drop := by
  have key : ∀ g, g = drop ∨ (g ≤ drop ∧ n.log2 + 2 ≤ g) → rhe n g = rhe n drop := by
    intro g hg
    rcases hg with rfl | ⟨h1, h2⟩
    · rfl
    · have small : ∀ e, n.log2 + 2 ≤ e → rhe n e = 0 := by
        intro e he
        have hn : n < 2 ^ (n.log2 + 1) := Nat.lt_log2_self
        have hpe : 2 ^ (n.log2 + 2) ≤ 2 ^ e := Nat.pow_le_pow_right (by decide) he
        have hs : 2 ^ (n.log2 + 2) = 2 ^ (n.log2 + 1) * 2 := Nat.pow_succ ..
        unfold rhe
        rw [Nat.div_eq_of_lt (by omega), Nat.mod_eq_of_lt (by omega)]
        have c1 : ¬ 2 ^ e < 2 * n := by omega
        have c2 : ¬ 2 ^ e = 2 * n := by omega
        simp [c1]
      rw [small g h2, small drop (by omega)]
  have h := key (min drop (n.log2 + 2)) (by omega)
  rw [← h]
  unfold Toward.cut rhe
  simp only [Nat.one_shiftLeft]
theorem cut_zero (neg : Bool) (n drop : Nat) : Toward.zero.cut neg n drop = n / 2 ^ drop := by
  unfold Toward.cut
  simp only [Nat.one_shiftLeft, Bool.toNat_false, Nat.add_zero]
  by_cases h : drop ≤ n.log2 + 2
  · rw [Nat.min_eq_left h]
  · rw [Nat.min_eq_right (by omega)]
    have hn : n < 2 ^ (n.log2 + 1) := Nat.lt_log2_self
    have p1 : 2 ^ (n.log2 + 1) ≤ 2 ^ (n.log2 + 2) := Nat.pow_le_pow_right (by decide) (by omega)
    have p2 : 2 ^ (n.log2 + 2) ≤ 2 ^ drop := Nat.pow_le_pow_right (by decide) (by omega)
    rw [Nat.div_eq_of_lt (by omega), Nat.div_eq_of_lt (by omega)]
/-! the rung of a number v * 2^(-1074 - E) -/
def rungV (E v : Nat) : Nat := (max (v.log2 - 52) E - E) * 4503599627370496 + rhe v (max (v.log2 - 52) E)
theorem log2_mul_pow (m P : Nat) (h : m ≠ 0) : (m * 2 ^ P).log2 = m.log2 + P := by
  have hp : m * 2 ^ P ≠ 0 := Nat.mul_ne_zero h (by have := Nat.two_pow_pos P; omega)
  rw [Nat.log2_eq_iff hp]
  have h1 := Nat.log2_self_le h
  have h2 : m < 2 ^ (m.log2 + 1) := Nat.lt_log2_self
  have hP := Nat.two_pow_pos P
  rw [Nat.add_right_comm, Nat.pow_add, Nat.pow_add 2 (m.log2 + 1)]
  exact ⟨Nat.mul_le_mul_right _ h1, (Nat.mul_lt_mul_right hP).2 h2⟩
theorem nearest_eq (neg : Bool) (m : Nat) (p : Int) (P E : Nat) (h : p + 1074 + E = P) : D.nearest neg m p = D.word neg (min (rungV E (m * 2 ^ P)) D.infRung) := by
  unfold Format.nearest
  by_cases hm : m = 0
  · subst hm
    rw [if_pos rfl, Nat.zero_mul]
    have : rungV E 0 = 0 := by
      unfold rungV rhe
      have e : max (Nat.log2 0 - 52) E = E := by rw [Nat.log2_zero]; omega
      rw [e, Nat.zero_div, Nat.zero_mod]
      simp
    rw [this]; rfl
  rw [if_neg hm]
  dsimp only
  rw [lp_eq, binade_eq, fb_eq]
  refine congrArg (fun t => D.word neg (min t D.infRung)) ?_
  have hl : (m * 2 ^ P).log2 = m.log2 + P := log2_mul_pow m P hm
  have hlast : max (p + (m.log2 : Int) - ((52 : Nat) : Int)) (-1074) = ((max ((m * 2 ^ P).log2 - 52) E : Nat) : Int) - 1074 - E := by
    rw [hl]; omega
  rw [hlast, cut_even]
  unfold rungV
  generalize max ((m * 2 ^ P).log2 - 52) E = L at *
  have a1 : ((L : Int) - 1074 - (E : Int) - -1074).toNat = L - E := by omega
  rw [a1]
  congr 1
  rw [Nat.shiftLeft_eq]
  by_cases hPL : L ≤ P
  · have a2 : (p - ((L : Int) - 1074 - E)).toNat = P - L := by omega
    have a3 : ((L : Int) - 1074 - E - p).toNat = 0 := by omega
    rw [a2, a3, rhe_zero]
    have hx : m * 2 ^ P = m * 2 ^ (P - L) * 2 ^ L := by rw [Nat.mul_assoc, ← Nat.pow_add]; congr 2; omega
    rw [hx]
    have := rhe_scale (m * 2 ^ (P - L)) 0 L
    rw [Nat.zero_add] at this
    rw [this, rhe_zero]
  · have a2 : (p - ((L : Int) - 1074 - E)).toNat = 0 := by omega
    have a3 : ((L : Int) - 1074 - E - p).toNat = L - P := by omega
    rw [a2, a3, Nat.pow_zero, Nat.mul_one]
    have := rhe_scale m (L - P) P
    rw [show L - P + P = L by omega] at this
    exact this.symm
theorem log2_mono {a b : Nat} (h : a ≤ b) : a.log2 ≤ b.log2 := by
  by_cases ha : a = 0
  · subst ha; rw [Nat.log2_zero]; exact Nat.zero_le _
  · exact (Nat.le_log2 (by omega)).2 (Nat.le_trans (Nat.log2_self_le ha) h)
theorem rungV_mono (E : Nat) {v v' : Nat} (h : v ≤ v') : rungV E v ≤ rungV E v' := by
  have hl := log2_mono h
  unfold rungV
  by_cases e : max (v.log2 - 52) E = max (v'.log2 - 52) E
  · rw [e]; exact Nat.add_le_add_left (rhe_mono _ _ _ h) _
  · -- the place is higher: v' is normal there
    have hlt : max (v.log2 - 52) E < max (v'.log2 - 52) E := by omega
    have e' : max (v'.log2 - 52) E = v'.log2 - 52 := by omega
    have h52 : 52 < v'.log2 := by omega
    rw [e']
    have hv0 : v' ≠ 0 := by intro h0; subst h0; rw [Nat.log2_zero] at h52; omega
    -- kept' is at least 2^52
    have k' : 4503599627370496 ≤ rhe v' (v'.log2 - 52) := by
      refine Nat.le_trans ?_ (rhe_lo _ _)
      rw [Nat.le_div_iff_mul_le (Nat.two_pow_pos _)]
      have := Nat.log2_self_le hv0
      rw [show (4503599627370496 : Nat) = 2 ^ 52 by decide, ← Nat.pow_add, show 52 + (v'.log2 - 52) = v'.log2 by omega]
      exact this
    -- kept is at most 2^53
    have k : rhe v (max (v.log2 - 52) E) ≤ 9007199254740992 := by
      have hv : v < 2 ^ (v.log2 + 1) := Nat.lt_log2_self
      have : v / 2 ^ max (v.log2 - 52) E < 9007199254740992 := by
        rw [Nat.div_lt_iff_lt_mul (Nat.two_pow_pos _)]
        refine Nat.lt_of_lt_of_le hv ?_
        rw [show (9007199254740992 : Nat) = 2 ^ 53 by decide, ← Nat.pow_add]
        exact Nat.pow_le_pow_right (by decide) (by omega)
      have := rhe_hi v (max (v.log2 - 52) E)
      omega
    have g1 : E ≤ max (v.log2 - 52) E := by omega
    have g2 : max (v.log2 - 52) E < v'.log2 - 52 := by omega
    clear hlt e' e
    generalize max (v.log2 - 52) E = L at *
    generalize v'.log2 - 52 = L' at *
    have hm : (L - E + 1) * 4503599627370496 ≤ (L' - E) * 4503599627370496 := Nat.mul_le_mul_right _ (by omega)
    rw [Nat.add_mul] at hm
    omega
/-! the value of a rung, times 2^1074 -/
def val (r : Nat) : Nat := if r < 4503599627370496 then r else (4503599627370496 + r % 4503599627370496) * 2 ^ (r / 4503599627370496 - 1)
theorem val_lt {r r' : Nat} (h : r < r') : val r < val r' := by
  unfold val
  by_cases h1 : r < 4503599627370496
  · rw [if_pos h1]
    by_cases h2 : r' < 4503599627370496
    · rw [if_pos h2]; exact h
    · rw [if_neg h2]
      have := Nat.two_pow_pos (r' / 4503599627370496 - 1)
      have : (4503599627370496 + r' % 4503599627370496) * 1 ≤ (4503599627370496 + r' % 4503599627370496) * 2 ^ (r' / 4503599627370496 - 1) := Nat.mul_le_mul_left _ this
      omega
  · have h2 : ¬ r' < 4503599627370496 := by omega
    rw [if_neg h1, if_neg h2]
    have hq : r / 4503599627370496 ≤ r' / 4503599627370496 := Nat.div_le_div_right (by omega)
    by_cases e : r / 4503599627370496 = r' / 4503599627370496
    · rw [e]; exact (Nat.mul_lt_mul_right (Nat.two_pow_pos _)).2 (by omega)
    · have hm : r % 4503599627370496 < 4503599627370496 := Nat.mod_lt _ (by decide)
      have hm' : r' % 4503599627370496 < 4503599627370496 := Nat.mod_lt _ (by decide)
      have p1 : 2 ^ (r / 4503599627370496) ≤ 2 ^ (r' / 4503599627370496 - 1) := Nat.pow_le_pow_right (by decide) (by omega)
      have p0 : 2 ^ (r / 4503599627370496) = 2 ^ (r / 4503599627370496 - 1) * 2 := by
        rw [← Nat.pow_succ]; congr 1; omega
      have hpos := Nat.two_pow_pos (r / 4503599627370496 - 1)
      have s1 : (4503599627370496 + r % 4503599627370496) * 2 ^ (r / 4503599627370496 - 1) < 9007199254740992 * 2 ^ (r / 4503599627370496 - 1) := (Nat.mul_lt_mul_right hpos).2 (by omega)
      have s2 : 4503599627370496 * 2 ^ (r' / 4503599627370496 - 1) ≤ (4503599627370496 + r' % 4503599627370496) * 2 ^ (r' / 4503599627370496 - 1) := Nat.mul_le_mul_right _ (by omega)
      omega
theorem val_le {r r' : Nat} (h : r ≤ r') : val r ≤ val r' := by
  rcases Nat.eq_or_lt_of_le h with rfl | h
  · exact Nat.le_refl _
  · exact Nat.le_of_lt (val_lt h)
/-- a number of at most 53 binary digits is what its rung stands for -/
theorem val_rungV (v : Nat) (h : v % 2 ^ (v.log2 - 52) = 0) : val (rungV 0 v) = v := by
  unfold rungV
  rw [show max (v.log2 - 52) 0 = v.log2 - 52 by omega, Nat.sub_zero, rhe_exact _ _ h]
  have hdm := Nat.div_add_mod v (2 ^ (v.log2 - 52))
  rw [h, Nat.add_zero] at hdm
  by_cases h52 : v.log2 ≤ 52
  · rw [show v.log2 - 52 = 0 by omega] at hdm ⊢
    simp only [Nat.pow_zero, Nat.div_one, Nat.zero_mul, Nat.zero_add]
    have hv : v < 2 ^ (v.log2 + 1) := Nat.lt_log2_self
    have : 2 ^ (v.log2 + 1) ≤ 2 ^ 53 := Nat.pow_le_pow_right (by decide) (by omega)
    have e53 : (2 : Nat) ^ 53 = 9007199254740992 := by decide
    unfold val
    split
    · rfl
    · rw [show v / 4503599627370496 = 1 by omega]; simp; omega
  · have hv0 : v ≠ 0 := by intro h0; subst h0; rw [Nat.log2_zero] at h52; omega
    have hlo := Nat.log2_self_le hv0
    have hhi : v < 2 ^ (v.log2 + 1) := Nat.lt_log2_self
    have c1 : 4503599627370496 ≤ v / 2 ^ (v.log2 - 52) := by
      rw [Nat.le_div_iff_mul_le (Nat.two_pow_pos _), show (4503599627370496 : Nat) = 2 ^ 52 by decide, ← Nat.pow_add, show 52 + (v.log2 - 52) = v.log2 by omega]
      exact hlo
    have c2 : v / 2 ^ (v.log2 - 52) < 9007199254740992 := by
      rw [Nat.div_lt_iff_lt_mul (Nat.two_pow_pos _), show (9007199254740992 : Nat) = 2 ^ 53 by decide, ← Nat.pow_add, show 53 + (v.log2 - 52) = v.log2 + 1 by omega]
      exact hhi
    generalize hL : v.log2 - 52 = L at *
    generalize hc : v / 2 ^ L = c at *
    unfold val
    rw [if_neg (by have : 1 * 4503599627370496 ≤ L * 4503599627370496 := Nat.mul_le_mul_right _ (by omega); omega)]
    have e1 : (L * 4503599627370496 + c) / 4503599627370496 = L + 1 := by omega
    have e2 : (L * 4503599627370496 + c) % 4503599627370496 = c - 4503599627370496 := by omega
    rw [e1, e2, show 4503599627370496 + (c - 4503599627370496) = c by omega, show L + 1 - 1 = L by omega, Nat.mul_comm]
    exact hdm
theorem thin (c e : Nat) (h : c < 9007199254740992) : (c * 2 ^ e) % 2 ^ ((c * 2 ^ e).log2 - 52) = 0 := by
  by_cases hc : c = 0
  · subst hc; simp
  · rw [log2_mul_pow c e hc]
    have hl : c.log2 < 53 := (Nat.log2_lt hc).2 (by rw [show (2 : Nat) ^ 53 = 9007199254740992 by decide]; exact h)
    have hd : 2 ^ (c.log2 + e - 52) ∣ 2 ^ e := Nat.pow_dvd_pow 2 (by omega)
    exact Nat.mod_eq_zero_of_dvd (Nat.dvd_trans hd (Nat.dvd_mul_left _ _))
/-! words -/
def rung (x : Nat) : Nat := x % 9223372036854775808
def sg (x : Nat) : Bool := x / 9223372036854775808 % 2 == 1
def isn (x : Nat) : Bool := decide (9218868437227405312 < rung x)
def key (x : Nat) : Int := if sg x then -(rung x : Int) else rung x
def sval (x : Nat) : Int := if sg x then -(val (rung x) : Int) else val (rung x)
/-- finite -/
def fin (x : Nat) : Prop := rung x < 9218868437227405312
theorem read_nan (x : Nat) (h : isn x = true) : D.read x = .nan (sg x) (rung x - 9218868437227405312) := by
  have h' : 9218868437227405312 < rung x := of_decide_eq_true h
  unfold Format.read
  dsimp only
  rw [sw_eq, binade_eq, inf_eq]
  show (if rung x < _ then _ else _) = _
  rw [if_neg (by omega)]
  show (if rung x < _ then _ else _) = _
  rw [if_neg (by omega)]
  show (if rung x = _ then _ else _) = _
  rw [if_neg (by omega)]
  rfl
theorem read_inf (x : Nat) (h : rung x = 9218868437227405312) : D.read x = .infinity (sg x) := by
  unfold Format.read
  dsimp only
  rw [sw_eq, binade_eq, inf_eq]
  show (if rung x < _ then _ else _) = _
  rw [if_neg (by omega)]
  show (if rung x < _ then _ else _) = _
  rw [if_neg (by omega)]
  show (if rung x = _ then _ else _) = _
  rw [if_pos h]
  rfl
theorem read_fin (x : Nat) (h : fin x) : ∃ (m : Nat) (i : Int) (P : Nat), D.read x = .number (sg x) m i ∧ i + 1074 = P ∧ m * 2 ^ P = val (rung x) ∧ m < 9007199254740992 := by
  unfold fin at h
  unfold Format.read
  dsimp only
  rw [sw_eq, binade_eq, inf_eq, lp_eq]
  by_cases h1 : rung x < 4503599627370496
  · refine ⟨rung x, -1074, 0, ?_, by omega, ?_, by omega⟩
    · show (if rung x < _ then _ else _) = _
      rw [if_pos h1]; rfl
    · unfold val; rw [if_pos h1]; simp
  · refine ⟨4503599627370496 + rung x % 4503599627370496, -1074 + ((rung x / 4503599627370496 - 1 : Nat) : Int), rung x / 4503599627370496 - 1, ?_, by omega, ?_, by omega⟩
    · show (if rung x < _ then _ else _) = _
      rw [if_neg h1]
      show (if rung x < _ then _ else _) = _
      rw [if_pos h]; rfl
    · unfold val; rw [if_neg h1]
theorem signed_scale (s : Bool) (m a k : Nat) : signed s m a * (2 ^ k : Nat) = signed s m (a + k) := by
  have e : ((m <<< a : Nat) : Int) * (2 ^ k : Nat) = ((m <<< (a + k) : Nat) : Int) := by
    rw [Nat.shiftLeft_eq, Nat.shiftLeft_eq, Nat.pow_add, ← Nat.mul_assoc]; simp
  unfold signed
  split
  · rw [Int.neg_mul, e]
  · exact e
theorem signed_sval (x : Nat) {m P : Nat} (h : m * 2 ^ P = val (rung x)) : signed (sg x) m P = sval x := by
  unfold signed sval
  rw [Nat.shiftLeft_eq, h]
theorem cmp_congr {a b c d : Int} (h1 : a < b ↔ c < d) (h2 : b < a ↔ d < c) : compare a b = compare c d := by
  rw [Int.compare_eq_ite_lt, Int.compare_eq_ite_lt]
  simp only [h1, h2]
theorem cmp_lt {a b : Int} (h : a < b) : compare a b = .lt := by rw [Int.compare_eq_ite_lt, if_pos h]
theorem cmp_gt {a b : Int} (h : b < a) : compare a b = .gt := by rw [Int.compare_eq_ite_lt, if_neg (by omega), if_pos h]
theorem cmp_scale (a b : Int) (k : Nat) (hk : 0 < k) : compare (a * k) (b * k) = compare a b := by
  have hk' : (0 : Int) < k := by omega
  exact cmp_congr ⟨fun h => Int.lt_of_mul_lt_mul_right h (by omega), fun h => Int.mul_lt_mul_of_pos_right h hk'⟩ ⟨fun h => Int.lt_of_mul_lt_mul_right h (by omega), fun h => Int.mul_lt_mul_of_pos_right h hk'⟩
theorem sval_cmp (x y : Nat) : compare (sval x) (sval y) = compare (key x) (key y) := by
  have h0 : val 0 = 0 := by decide
  have pos : ∀ r, 0 < r → 0 < val r := fun r h => by have := val_lt h; omega
  have lt : ∀ r r', r < r' → val r < val r' := fun r r' h => val_lt h
  have hiff : ∀ r r', val r < val r' ↔ r < r' := fun r r' => ⟨fun h => Nat.lt_of_not_le fun hh => by have := val_le hh; omega, fun h => val_lt h⟩
  have hz : ∀ r, val r = 0 ↔ r = 0 := fun r => ⟨fun h => by by_cases hr : r = 0; exact hr; have := pos r (by omega); omega, fun h => by subst h; exact h0⟩
  have a1 := hiff (rung x) (rung y)
  have a2 := hiff (rung y) (rung x)
  have a3 := hz (rung x)
  have a4 := hz (rung y)
  apply cmp_congr
  · unfold sval key; split <;> split <;> omega
  · unfold sval key; split <;> split <;> omega
theorem order_nan (x y : Nat) (h : isn x = true ∨ isn y = true) : D.order x y = none := by
  unfold Format.order
  rcases h with h | h
  · rw [read_nan x h]; rfl
  · rw [read_nan y h]
    cases D.read x <;> rfl
theorem order_key (x y : Nat) (hx : isn x = false) (hy : isn y = false) : D.order x y = some (compare (key x) (key y)) := by
  have hx' := of_decide_eq_false hx
  have hy' := of_decide_eq_false hy
  unfold Format.order
  by_cases fx : fin x
  · obtain ⟨m, i, P, rx, hP, vx, -⟩ := read_fin x fx
    by_cases fy : fin y
    · obtain ⟨n, j, Q, ry, hQ, vy, -⟩ := read_fin y fy
      rw [rx, ry]
      unfold Datum.order
      dsimp only
      congr 1
      rw [← sval_cmp, ← signed_sval x vx, ← signed_sval y vy]
      obtain ⟨B, hB⟩ : ∃ B : Nat, min i j + 1074 = B := ⟨(min i j + 1074).toNat, by omega⟩
      rw [← cmp_scale _ _ (2 ^ B) (Nat.two_pow_pos B), signed_scale, signed_scale]
      rw [show (i - min i j).toNat + B = P by omega, show (j - min i j).toNat + B = Q by omega]
    · have hy2 : rung y = 9218868437227405312 := by unfold fin at fy; omega
      rw [rx, read_inf y hy2]
      unfold fin at fx
      unfold Datum.order
      dsimp only
      congr 1
      unfold key
      rw [hy2]
      cases sg y
      · rw [cmp_lt (by cases sg x <;> simp <;> omega)]; rfl
      · rw [cmp_gt (by cases sg x <;> simp <;> omega)]; rfl
  · have hx2 : rung x = 9218868437227405312 := by unfold fin at fx; omega
    by_cases fy : fin y
    · obtain ⟨n, j, Q, ry, hQ, vy, -⟩ := read_fin y fy
      rw [ry, read_inf x hx2]
      unfold fin at fy
      unfold Datum.order
      dsimp only
      congr 1
      unfold key
      rw [hx2]
      cases sg x
      · rw [cmp_gt (by cases sg y <;> simp <;> omega)]; rfl
      · rw [cmp_lt (by cases sg y <;> simp <;> omega)]; rfl
    · have hy2 : rung y = 9218868437227405312 := by unfold fin at fy; omega
      rw [read_inf x hx2, read_inf y hy2]
      unfold Datum.order key
      dsimp only
      congr 1
      rw [hx2, hy2]
      cases sg x <;> cases sg y <;> decide
/-! the six comparisons, by the keys -/
theorem o_eq {x y : Nat} (hx : isn x = false) (hy : isn y = false) : (D.order x y == some .eq) = decide (key x = key y) := by
  rw [order_key x y hx hy, Int.compare_eq_ite_lt, Bool.eq_iff_iff]
  by_cases h : key x < key y
  · simp [h]; omega
  · by_cases h' : key y < key x
    · simp [h, h']; omega
    · simp [h, h']; omega
/-! exact sums -/
def T : Nat := 1074
theorem T_eq : T = 1074 := rfl
theorem word_rung (s : Bool) (r : Nat) (h : r < 9223372036854775808) : rung (D.word s r) = r := by
  unfold rung Format.word
  rw [sw_eq]
  split <;> omega
theorem word_sg (s : Bool) (r : Nat) (h : r < 9223372036854775808) : sg (D.word s r) = s := by
  unfold sg Format.word
  rw [sw_eq]
  cases s
  · simp; omega
  · simp; omega
/-! whole numbers -/
theorem toInt_zero (x : Nat) (hx : fin x) (hs : sg x = false) : (D.read x).toInt .zero = some ((val (rung x) / 2 ^ T : Nat) : Int) := by
  obtain ⟨m, i, P, rx, hP, vx, -⟩ := read_fin x hx
  rw [rx, hs, ← vx]
  unfold Datum.toInt Datum.integral
  dsimp only
  rw [cut_zero]
  unfold signed
  simp only [Bool.false_eq_true, if_false, Nat.shiftLeft_zero]
  congr 2
  rw [Nat.shiftLeft_eq]
  by_cases h0 : 0 ≤ i
  · rw [show (-i).toNat = 0 by omega, Nat.pow_zero, Nat.div_one, show P = i.toNat + T by rw [T_eq]; omega, Nat.pow_add, ← Nat.mul_assoc, Nat.mul_div_cancel _ (Nat.two_pow_pos T)]
  · rw [show i.toNat = 0 by omega, Nat.pow_zero, Nat.mul_one, show T = P + (-i).toNat by rw [T_eq]; omega, Nat.pow_add, Nat.mul_comm (2 ^ P), Nat.mul_div_mul_right _ _ (Nat.two_pow_pos P)]
theorem integral_even (x : Nat) (hx : fin x) : (D.read x).integral .even = .number (sg x) (rhe (val (rung x)) T) 0 := by
  obtain ⟨m, i, P, rx, hP, vx, -⟩ := read_fin x hx
  rw [rx, ← vx]
  unfold Datum.integral
  dsimp only
  rw [cut_even, Nat.shiftLeft_eq]
  refine congrArg (fun t => Datum.number (sg x) t 0) ?_
  by_cases h0 : 0 ≤ i
  · rw [show (-i).toNat = 0 by omega, rhe_zero, show P = i.toNat + T by rw [T_eq]; omega, Nat.pow_add, ← Nat.mul_assoc]
    have := rhe_scale (m * 2 ^ i.toNat) 0 T
    rw [Nat.zero_add] at this
    rw [this, rhe_zero]
  · rw [show i.toNat = 0 by omega, Nat.pow_zero, Nat.mul_one, show T = (-i).toNat + P by rw [T_eq]; omega, rhe_scale]
theorem lt_val_inf (v : Nat) (h : v < 2 ^ (53 + T)) : v < val 9218868437227405312 := by
  unfold val
  rw [if_neg (by omega)]
  generalize he : 9218868437227405312 / 4503599627370496 - 1 = e
  have h52 : (4503599627370496 + 9218868437227405312 % 4503599627370496) = 2 ^ 52 := by decide
  rw [h52, ← Nat.pow_add]
  exact Nat.lt_of_lt_of_le h (Nat.pow_le_pow_right (by decide) (by rw [T_eq]; omega))
/-- a whole number below 2^53 as a word: its rung, its value -/
def irung (n : Nat) : Nat := rungV 0 (n * 2 ^ T)
theorem val_irung (n : Nat) (h : n < 9007199254740992) : val (irung n) = n * 2 ^ T := val_rungV _ (thin n T h)
theorem irung_lt (n : Nat) (h : n < 9007199254740992) : irung n < 9218868437227405312 := by
  have hv := val_irung n h
  have : n * 2 ^ T < val 9218868437227405312 := by
    apply lt_val_inf
    rw [Nat.pow_add]
    exact (Nat.mul_lt_mul_right (Nat.two_pow_pos T)).2 (by rw [show (2 : Nat) ^ 53 = 9007199254740992 by decide]; exact h)
  rw [← hv] at this
  exact Nat.lt_of_not_le fun hh => by have := val_le hh; omega
theorem write_int (s : Bool) (n : Nat) (h : n < 9007199254740992) : D.write (.number s n 0) = D.word s (irung n) := by
  unfold Format.write
  dsimp only
  rw [nearest_eq s n 0 T 0 (by rw [T_eq]; omega), inf_eq]
  have := irung_lt n h
  rw [Nat.min_eq_left (by unfold irung at this; omega)]
  rfl
theorem irung_toInt (s : Bool) (n : Nat) (h : n < 9007199254740992) (hs : s = false) : (D.read (D.word s (irung n))).toInt .zero = some (n : Int) := by
  have h1 := irung_lt n h
  have h2 := word_rung s (irung n) (by omega)
  rw [toInt_zero _ (by unfold fin; omega) (by rw [word_sg _ _ (by omega), hs]), h2, val_irung n h, Nat.mul_div_cancel _ (Nat.two_pow_pos T)]
end Go.Proofs.Fl
namespace Go.Proofs.Ytambpohphbdhcaa
end Go.Proofs.Ytambpohphbdhcaa
namespace Go.Proofs.Fl
open Ieee
/-- ten, 999.9, a half -/
abbrev ten : Nat := 4621819117588971520
abbrev half : Nat := 4602678819172646912
/-- the seconds that have ticks -/
def ok (s : Nat) : Bool := !isn s && decide (0 ≤ key s) && decide (key s ≤ 4652006429231887155)
theorem ok_iff (s : Nat) : ok s = true ↔ isn s = false ∧ 0 ≤ key s ∧ key s ≤ 4652006429231887155 := by
  unfold ok; simp [and_assoc]
theorem ok_fin {s : Nat} (h : ok s = true) : fin s := by
  obtain ⟨h1, h2, h3⟩ := (ok_iff s).1 h
  have := of_decide_eq_false h1
  unfold fin; unfold key at h2 h3
  split at h2 <;> simp_all <;> omega
theorem ok_rung {s : Nat} (h : ok s = true) : rung s ≤ 4652006429231887155 ∧ (sg s = true → rung s = 0) := by
  obtain ⟨h1, h2, h3⟩ := (ok_iff s).1 h
  unfold key at h2 h3
  cases hs : sg s <;> simp [hs] at h2 h3 ⊢ <;> omega
/-- the rung of ten times a number of seconds -/
def tr (s : Nat) : Nat := rungV 49 (5629499534213120 * val (rung s))
theorem mul_ten (s : Nat) (h : fin s) : D.mul ten s = some (D.word (sg s) (min (tr s) D.infRung)) := by
  obtain ⟨m, i, P, rx, hP, vx, -⟩ := read_fin s h
  unfold Format.mul
  rw [show D.read ten = .number false 5629499534213120 (-49) by decide, rx]
  unfold Datum.product
  dsimp only [Option.map_some]
  unfold Format.write
  dsimp only
  rw [nearest_eq _ _ _ P 49 (by omega), Nat.mul_assoc, vx, Bool.false_xor]
  rfl
theorem ten_mul (s : Nat) (h : fin s) : D.mul s ten = some (D.word (sg s) (min (tr s) D.infRung)) := by
  rw [← mul_ten s h]
  obtain ⟨m, i, P, rx, hP, vx, -⟩ := read_fin s h
  unfold Format.mul
  rw [show D.read ten = .number false 5629499534213120 (-49) by decide, rx]
  unfold Datum.product
  dsimp only
  rw [Nat.mul_comm, Int.add_comm, Bool.xor_comm]
theorem tr_top : tr 4652006429231887155 = 4666722622711529472 := by decide +kernel
theorem tr_mono {s t : Nat} (h : rung s ≤ rung t) : tr s ≤ tr t := rungV_mono 49 (Nat.mul_le_mul_left _ (val_le h))
theorem tr_hi {s : Nat} (h : ok s = true) : tr s ≤ 4666722622711529472 := by
  rw [← tr_top]
  exact tr_mono (ok_rung h).1
/-- ten times s, as a word -/
def xw (s : Nat) : Nat := D.word (sg s) (tr s)
theorem mul_ok {s : Nat} (h : ok s = true) : D.mul ten s = some (xw s) ∧ D.mul s ten = some (xw s) := by
  have e : min (tr s) D.infRung = tr s := Nat.min_eq_left (by have := tr_hi h; rw [inf_eq]; omega)
  rw [mul_ten s (ok_fin h), ten_mul s (ok_fin h), e]
  exact ⟨rfl, rfl⟩
theorem xw_rung {s : Nat} (h : ok s = true) : rung (xw s) = tr s := word_rung _ _ (by have := tr_hi h; omega)
theorem xw_sg {s : Nat} (h : ok s = true) : sg (xw s) = sg s := word_sg _ _ (by have := tr_hi h; omega)
theorem xw_fin {s : Nat} (h : ok s = true) : fin (xw s) := by unfold fin; rw [xw_rung h]; have := tr_hi h; omega
/-- the ticks of seconds -/
def tk (s : Nat) : Nat := rhe (val (tr s)) T
theorem val_9999 : val 4666722622711529472 = 9999 * 2 ^ T := by
  have : irung 9999 = 4666722622711529472 := by
    unfold irung; rw [T_eq]; decide +kernel
  rw [← this, val_irung 9999 (by omega)]
theorem tk_hi {s : Nat} (h : ok s = true) : tk s ≤ 9999 := by
  have h1 : tk s ≤ rhe (9999 * 2 ^ T) T := rhe_mono _ _ _ (by rw [← val_9999]; exact val_le (tr_hi h))
  have h2 : rhe (9999 * 2 ^ T) T = 9999 := by
    have := rhe_scale 9999 0 T
    rw [Nat.zero_add, rhe_zero] at this
    exact this
  omega
/-- the word that RoundToEven gives of ten times s -/
def rw' (s : Nat) : Nat := D.word (sg s) (irung (tk s))
theorem round_ok {s : Nat} (h : ok s = true) : D.write ((D.read (xw s)).integral .even) = rw' s := by
  have hh := tk_hi h
  rw [integral_even _ (xw_fin h), xw_rung h, xw_sg h]
  rw [write_int _ _ (by unfold tk at hh; omega)]
  rfl
theorem tr_zero {s : Nat} (h : rung s = 0) : tr s = 0 := by unfold tr; rw [h]; decide
theorem tk_zero {s : Nat} (h : rung s = 0) : tk s = 0 := by
  unfold tk; rw [tr_zero h]
  have := rhe_scale 0 0 T
  rw [Nat.zero_add, rhe_zero, Nat.zero_mul] at this
  exact this
theorem int_ok {s : Nat} (h : ok s = true) : floatToIntVal .f64 (rw' s) .i64 = some (tk s : Int) := by
  have hh := tk_hi h
  have e : (D.read (rw' s)).toInt .zero = some (tk s : Int) := by
    by_cases hs : sg s = true
    · have h0 := tk_zero ((ok_rung h).2 hs)
      unfold rw'; rw [hs, h0]
      have : irung 0 = 0 := by unfold irung; rw [Nat.zero_mul]; decide
      rw [this]; decide
    · exact irung_toInt _ _ (by omega) (by simpa using hs)
  unfold floatToIntVal
  have e' : (FloatKind.decode .f64 (rw' s)).toInt .zero = some (tk s : Int) := e
  rw [e']
  simp only
  rw [if_pos]
  rw [show IntKind.min .i64 = -9223372036854775808 by decide, show IntKind.max .i64 = 9223372036854775807 by decide]
  omega
/-! the same by the other way: cut, and one more where the rest is more than a half -/
theorem float_of (n : Nat) (h : n < 9007199254740992) : floatOfInt .f64 (n : Int) = irung n := by
  show D.write (.number (decide ((n : Int) < 0)) (n : Int).natAbs 0) = _
  rw [show (n : Int).natAbs = n by omega, write_int _ n h, decide_eq_false (by omega)]
  rfl
/-! all seconds of whole ticks, by calculation -/
/-- n / 10 -/
def ofB (n : Nat) : Nat := (D.div (floatOfInt .f64 (n : Int)) ten).getD 0
end Go.Proofs.Fl
namespace Go.Proofs.Ytambpohphbdhcaa
namespace Secs
open Go.ChangeShapes Go.WideShapes Go.ChangeAt Go.RowKit Go.Proofs.Fl
def cap (n : Int) : Int := if n < 0 then 0 else if 2147483647 < n then 2147483647 else n
theorem cap_neg {n : Int} (h : n < 0) : cap n = 0 := by unfold cap; rw [if_pos h]
theorem cap_big {n : Int} (h : 2147483647 < n) : cap n = 2147483647 := by unfold cap; rw [if_neg (by omega), if_pos h]
theorem cap_in {n : Int} (h : 0 ≤ n) (h' : n ≤ 2147483647) : cap n = n := by unfold cap; rw [if_neg (by omega), if_neg (by omega)]
theorem ret_int {k : IntKind} {a b : Int} (h : a = b) : Ending.returned (.int k a) = .returned (.int k b) := by rw [h]
theorem ret_bool {a b : Bool} (h : a = b) : Ending.returned (.bool a) = .returned (.bool b) := by rw [h]
theorem ret_float {k : FloatKind} {a b : Nat} (h : a = b) : Ending.returned (.float k a) = .returned (.float k b) := by rw [h]
theorem limit_any (n : Int) (w : World) : Calls Try.prog 82 #[.int .i64 n] w fun e w' => e = .returned (.int .i64 (cap n)) ∧ w = w' := by
  by_cases h1 : n < 0
  · go_enter Try.func82, Try.ntmps82
    go_wp2
    go_ret
    exact ⟨ret_int (cap_neg h1).symm, rfl⟩
  by_cases h2 : 2147483647 < n
  · go_enter Try.func82, Try.ntmps82
    go_wp2
    go_ret
    exact ⟨ret_int (cap_big h2).symm, rfl⟩
  · go_enter Try.func82, Try.ntmps82
    go_wp2
    go_ret
    exact ⟨ret_int (cap_in (by omega) (by omega)).symm, rfl⟩
theorem cap_any (n : Int) (w : World) : Calls Try.prog 81 #[.int .i64 n] w fun e w' => e = .returned (.int .i64 (cap n)) ∧ w = w' := by
  go_enter Try.func81, Try.ntmps81
  go_wp2_with (go_at_call 82; refine (limit_any _ _).mono ?_; rintro e w' ⟨rfl, rfl⟩)
  go_ret
  exact ⟨rfl, rfl⟩
/-! is it a number? -/
theorem o_ne_self (x : Nat) : (FloatKind.f64.format.order x x != some .eq) = isn x := by
  show (D.order x x != some .eq) = isn x
  cases h : isn x
  · have := o_eq h h
    rw [bne, this]; simp
  · rw [order_nan x x (.inl h)]; rfl
theorem isnan_any (x : Nat) (w : World) : Calls Try.prog 77 #[.float .f64 x] w fun e w' => e = .returned (.bool (isn x)) ∧ w = w' := by
  go_enter Try.func77, Try.ntmps77
  go_wp2
  go_ret
  exact ⟨ret_bool (o_ne_self x), rfl⟩
/-! seconds of ticks -/
/-- n, cut to 0 to 9999 -/
def cut (n : Int) : Nat := (if n < 0 then 0 else if 9999 < n then 9999 else n).toNat
/-- that the quotients are what they are: proved by calculation elsewhere -/
def Quo : Prop := ∀ k : Nat, k ≤ 9999 → D.div (floatOfInt .f64 (k : Int)) ten = some (ofB k)
theorem quo_holds : Quo := by
  intro k hk
  have hf := float_of k (by omega)
  have hi := irung_lt k (by omega)
  obtain ⟨m, i, P, rx, -, -, -⟩ := read_fin (irung k) (by unfold fin rung; omega)
  have : ∃ s, D.div (floatOfInt .f64 (k : Int)) ten = some s := by
    rw [hf]
    unfold Ieee.Format.div
    rw [rx, show D.read ten = .number false 5629499534213120 (-49) by decide]
    unfold Ieee.Datum.quotient
    dsimp only
    rw [if_neg (by decide)]
    exact ⟨_, rfl⟩
  obtain ⟨s, hs⟩ := this
  unfold ofB
  rw [hs]
  rfl
theorem quo_at (hQ : Quo) (k : Int) (hk0 : 0 ≤ k) (hk : k ≤ 9999) : ∀ t w, (binOp .quo t (.float .f64 (floatOfInt .f64 k)) (.float .f64 4621819117588971520)).run Try.prog w = .ok (.float .f64 (ofB k.toNat)) w := by
  intro t w
  obtain ⟨n, rfl⟩ := Int.eq_ofNat_of_zero_le hk0
  exact run_float_arith w .quo t .f64 _ _ _ (hQ n (by omega))
theorem of_any (hQ : Quo) (n : Int) (w : World) : Calls Try.prog 80 #[.int .i64 n] w fun e w' => e = .returned (.float .f64 (ofB (cut n))) ∧ w = w' := by
  have hop := quo_at hQ
  clear hQ
  by_cases h1 : n < 0
  · have HC := Lib.hid (show cut n = 0 by unfold cut; rw [if_pos h1]; rfl)
    have hq := hop 0 (by omega) (by omega)
    have hcap := cap_neg h1
    clear hop
    go_enter Try.func80, Try.ntmps80
    go_wp2_with (first | (go_at_call 81; refine (cap_any _ _).mono ?_; rintro e w' ⟨rfl, rfl⟩) | simp only [hq])
    go_ret
    exact ⟨ret_float (by rw [HC.out]), rfl⟩
  by_cases h2 : 9999 < n
  · have HC := Lib.hid (show cut n = 9999 by unfold cut; rw [if_neg h1, if_pos h2]; rfl)
    have hq := hop 9999 (by omega) (by omega)
    have hcap : 9999 < cap n := by unfold cap; rw [if_neg h1]; split <;> omega
    clear hop
    go_enter Try.func80, Try.ntmps80
    go_wp2_with (first | (go_at_call 81; refine (cap_any _ _).mono ?_; rintro e w' ⟨rfl, rfl⟩) | simp only [hq])
    go_ret
    exact ⟨ret_float (by rw [HC.out]), rfl⟩
  · have HC := Lib.hid (show cut n = n.toNat by unfold cut; rw [if_neg h1, if_neg h2])
    have hq := hop n (by omega) (by omega)
    have hcap := cap_in (n := n) (by omega) (by omega)
    clear hop
    go_enter Try.func80, Try.ntmps80
    go_wp2_with (first | (go_at_call 81; refine (cap_any _ _).mono ?_; rintro e w' ⟨rfl, rfl⟩) | simp only [hq])
    go_ret
    exact ⟨ret_float (by rw [HC.out]), rfl⟩
theorem of_top : ofB (cut 9999) = 4652006429231887155 := by decide +kernel
theorem longest_any (hQ : Quo) (w : World) : Calls Try.prog 78 #[] w fun e w' => e = .returned (.float .f64 4652006429231887155) ∧ w = w' := by
  have HQ := Lib.hid hQ
  clear hQ
  go_enter Try.func78, Try.ntmps78
  go_wp2_with (go_at_call 80; refine (of_any HQ.out _ _).mono ?_; rintro e w' ⟨rfl, rfl⟩)
  go_ret
  exact ⟨ret_float of_top, rfl⟩
theorem even_call {s : Nat} (h : ok s = true) (w : World) : (callFunc 79 #[.float .f64 (xw s)]).run Try.prog w = .ok (.value (.float .f64 (rw' s))) w := by
  rw [run_callFunc_extern (e := Extern.MathFloor.toIntegral "math.RoundToEven" .even) Try.func79 (by kernel_rfl) (by kernel_rfl) (by kernel_rfl) (by kernel_rfl)]
  have hr := round_ok h
  obtain ⟨m, i, P, rx, -, -, -⟩ := read_fin (xw s) (xw_fin h)
  have e : FloatKind.decode .f64 (xw s) = .number (sg (xw s)) m i := rx
  have e2 : FloatKind.encode .f64 (Ieee.Datum.integral .even (.number (sg (xw s)) m i)) = rw' s := by rw [← hr, ← rx]; rfl
  have key : Extern.MathFloor.toIntegral "math.RoundToEven" .even #[.float .f64 (xw s)] = pure (.float .f64 (rw' s)) := by
    show Extern.MathFloor.toIntegral.match_1 (fun _ => Sem Value) (FloatKind.decode .f64 (xw s)) _ _ = _
    rw [e]
    show pure (Value.float .f64 (FloatKind.encode .f64 (Ieee.Datum.integral .even (.number (sg (xw s)) m i)))) = _
    rw [e2]
  rw [key]
  rfl
theorem bits_call (x : Nat) (w : World) : (callFunc 48 #[.float .f64 x]).run Try.prog w = .ok (.value (.int .u64 x)) w := by
  rw [run_callFunc_extern (e := Extern.MathFloatBits.float64bits) Try.func48 (by kernel_rfl) (by kernel_rfl) (by kernel_rfl) (by kernel_rfl)]
  rfl
/-! how two stand to each other, named -/
theorem ord_cases (x y : Nat) (hx : isn x = false) (hy : isn y = false) :
    (key x < key y ∧ FloatKind.f64.format.order x y = some .lt) ∨ (key x = key y ∧ FloatKind.f64.format.order x y = some .eq) ∨ (key y < key x ∧ FloatKind.f64.format.order x y = some .gt) := by
  have h : FloatKind.f64.format.order x y = some (compare (key x) (key y)) := order_key x y hx hy
  rw [h, Int.compare_eq_ite_lt]
  rcases Int.lt_trichotomy (key x) (key y) with hl | hl | hl
  · exact .inl ⟨hl, by rw [if_pos hl]⟩
  · exact .inr (.inl ⟨hl, by rw [if_neg (by omega), if_neg (by omega)]⟩)
  · exact .inr (.inr ⟨hl, by rw [if_neg (by omega), if_pos hl]⟩)
theorem ord_nan (x y : Nat) (h : isn x = true ∨ isn y = true) : FloatKind.f64.format.order x y = none := order_nan x y h
theorem key0 : key 0 = 0 := by decide
theorem keyT : key 4652006429231887155 = 4652006429231887155 := by decide
theorem isn0 : isn 0 = false := by decide
theorem isnT : isn 4652006429231887155 = false := by decide
theorem isnan_t {x : Nat} (h : isn x = true) (w : World) : Calls Try.prog 77 #[.float .f64 x] w fun e w' => e = .returned (.bool true) ∧ w = w' :=
  (isnan_any x w).mono fun _ _ ⟨a, b⟩ => ⟨by rw [a, h], b⟩
theorem isnan_f {x : Nat} (h : isn x = false) (w : World) : Calls Try.prog 77 #[.float .f64 x] w fun e w' => e = .returned (.bool false) ∧ w = w' :=
  (isnan_any x w).mono fun _ _ ⟨a, b⟩ => ⟨by rw [a, h], b⟩
/-! Ticks -/
theorem ticks_no (hQ : Quo) {s : Nat} (h : ok s = false) (w : World) : Calls Try.prog 75 #[.float .f64 s] w fun e w' => e = .returned (.tuple #[.int .i64 0, .bool false]) ∧ w = w' := by
  have HQ := Lib.hid hQ
  clear hQ
  cases hn : isn s
  · have h0 := ord_cases s 0 hn isn0
    have hT := ord_cases s 4652006429231887155 hn isnT
    rw [key0] at h0
    rw [keyT] at hT
    have hk : key s < 0 ∨ 0 ≤ key s ∧ 4652006429231887155 < key s := by
      have : ¬ ok s = true := by rw [h]; simp
      rw [ok_iff] at this
      by_cases a : key s < 0
      · exact .inl a
      · by_cases b : 4652006429231887155 < key s
        · exact .inr ⟨by omega, b⟩
        · exact absurd ⟨hn, by omega, by omega⟩ this
    have HN := Lib.hid hn
    clear hn h
    rcases hk with hk | ⟨hk0, hk⟩
    · have ho : FloatKind.f64.format.order s 0 = some .lt := by rcases h0 with ⟨a, b⟩ | ⟨a, b⟩ | ⟨a, b⟩ <;> first | exact b | omega
      clear h0 hT
      go_enter Try.func75, Try.ntmps75
      go_wp2_with (go_at_call 77; refine (isnan_f HN.out _).mono ?_; rintro e w' ⟨rfl, rfl⟩)
      go_ret2
      exact ⟨rfl, rfl⟩
    · have ho2 : FloatKind.f64.format.order s 4652006429231887155 = some .gt := by rcases hT with ⟨a, b⟩ | ⟨a, b⟩ | ⟨a, b⟩ <;> first | exact b | omega
      clear hT
      rcases h0 with ⟨a, ho⟩ | ⟨a, ho⟩ | ⟨a, ho⟩
      · omega
      all_goals
        clear a
        go_enter Try.func75, Try.ntmps75
        go_wp2_with (first | (go_at_call 77; refine (isnan_f HN.out _).mono ?_; rintro e w' ⟨rfl, rfl⟩) | (go_at_call 78; refine (longest_any HQ.out _).mono ?_; rintro e w' ⟨rfl, rfl⟩))
        go_ret2
        exact ⟨rfl, rfl⟩
  · have HN := Lib.hid hn
    clear hn h
    go_enter Try.func75, Try.ntmps75
    go_wp2_with (go_at_call 77; refine (isnan_t HN.out _).mono ?_; rintro e w' ⟨rfl, rfl⟩)
    go_ret2
    exact ⟨rfl, rfl⟩
theorem ticks_yes (hQ : Quo) {s : Nat} (h : ok s = true) (w : World) : Calls Try.prog 75 #[.float .f64 s] w fun e w' => e = .returned (.tuple #[.int .i64 (tk s), .bool true]) ∧ w = w' := by
  have HQ := Lib.hid hQ
  clear hQ
  obtain ⟨hn, hlo, hhi⟩ := (ok_iff s).1 h
  have h0 := ord_cases s 0 hn isn0
  have hT := ord_cases s 4652006429231887155 hn isnT
  rw [key0] at h0
  rw [keyT] at hT
  have HN := Lib.hid hn
  have hm : ∀ t w, (binOp .mul t (.float .f64 4621819117588971520) (.float .f64 s)).run Try.prog w = .ok (.float .f64 (xw s)) w := fun t w => run_float_arith w .mul t .f64 _ _ _ (mul_ok h).1
  have he := even_call h
  have hc : ∀ w, (convert 37 3 (.float .f64 (rw' s))).run Try.prog w = .ok (.int .i64 (tk s)) w := fun w => run_convert_float_int w 37 3 .f64 .i64 _ _ (by rw [Try.underlying37]; rfl) Try.underlying3 (int_ok h)
  clear hn h
  rcases h0 with ⟨a, ho⟩ | ⟨a, ho⟩ | ⟨a, ho⟩
  · omega
  all_goals
    rcases hT with ⟨b, ho2⟩ | ⟨b, ho2⟩ | ⟨b, ho2⟩
    rotate_right
    · omega
    all_goals
      clear a b hlo hhi
      go_enter Try.func75, Try.ntmps75
      go_wp2_with (first | (go_at_call 77; refine (isnan_f HN.out _).mono ?_; rintro e w' ⟨rfl, rfl⟩) | (go_at_call 78; refine (longest_any HQ.out _).mono ?_; rintro e w' ⟨rfl, rfl⟩) | simp only [hm, he, hc])
      go_ret2
      exact ⟨rfl, rfl⟩
end Secs
end Go.Proofs.Ytambpohphbdhcaa
