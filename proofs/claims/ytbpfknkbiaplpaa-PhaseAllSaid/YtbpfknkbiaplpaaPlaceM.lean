/- The document's own places of a table's phases: plain mathematics. No program in it. -/
import Derived.Test.YtbpfknkbiaplpaaTab
namespace Go.Proofs.Ytbpfknkbiaplpaa.PlaceM
open Go Tab
structure Spt where
  g : Nat
  k : Nat
  i : Nat
  p : Int
  deriving DecidableEq, Inhabited
/-- A table of few groups, with short rows. -/
structure Few (T : Tab) : Prop where
  groups : T.groups.length ≤ 1000
  rows : ∀ g ∈ T.groups, g.1.length ≤ 1000 ∧ g.2.length ≤ 1000
def Spt.cells (x : Spt) : List Value := [I x.g, I x.k, I x.i, I x.p]
theorem Spt.one (x : Spt) : x.cells.toArray.all (·.oneCell') = true := by simp [Spt.cells, Value.oneCell']
def one (g k i : Nat) (p : Int) : List Spt := if 0 ≤ p ∧ p < 8 then [⟨g, k, i, p⟩] else []
def rowS (g k : Nat) : Nat → List Int → List Spt
  | _, [] => []
  | i, p :: l => one g k i p ++ rowS g k (i + 1) l
def grpS (g : Nat) (x : List Int × List Int) : List Spt := rowS g 0 0 x.1 ++ rowS g 1 0 x.2
def allS : Nat → List (List Int × List Int) → List Spt
  | _, [] => []
  | g, x :: l => grpS g x ++ allS (g + 1) l
def spots (T : Tab) : List Spt := allS 0 T.groups
theorem rowS_append (g k : Nat) : ∀ (i : Nat) (l m : List Int), rowS g k i (l ++ m) = rowS g k i l ++ rowS g k (i + l.length) m
  | i, [], m => rfl
  | i, p :: l, m => by
    rw [List.cons_append, rowS, rowS, rowS_append g k (i + 1) l m, List.append_assoc, List.length_cons, show i + 1 + l.length = i + (l.length + 1) by omega]
theorem allS_append : ∀ (g : Nat) (l m : List (List Int × List Int)), allS g (l ++ m) = allS g l ++ allS (g + l.length) m
  | g, [], m => rfl
  | g, x :: l, m => by
    rw [List.cons_append, allS, allS, allS_append (g + 1) l m, List.append_assoc, List.length_cons, show g + 1 + l.length = g + (l.length + 1) by omega]
theorem take_succ {α : Type} {l : List α} {k : Nat} {v : α} (h : l[k]? = some v) : l.take (k + 1) = l.take k ++ [v] := by
  obtain ⟨hk, rfl⟩ := List.getElem?_eq_some_iff.1 h
  exact List.take_succ_eq_append_getElem hk
theorem row_step {g k i : Nat} {l : List Int} {p : Int} (h : l[i]? = some p) : rowS g k 0 (l.take (i + 1)) = rowS g k 0 (l.take i) ++ one g k i p := by
  have hi : i < l.length := (List.getElem?_eq_some_iff.1 h).1
  rw [take_succ h, rowS_append, List.length_take, Nat.min_eq_left (by omega), Nat.zero_add]
  simp [rowS]
theorem row_hit {g k i : Nat} {l : List Int} {p : Int} (h : l[i]? = some p) (h0 : 0 ≤ p) (h8 : p < 8) : rowS g k 0 (l.take (i + 1)) = rowS g k 0 (l.take i) ++ [⟨g, k, i, p⟩] := by
  rw [row_step h, one, if_pos ⟨h0, h8⟩]
theorem row_miss {g k i : Nat} {l : List Int} {p : Int} (h : l[i]? = some p) (h0 : ¬ (0 ≤ p ∧ p < 8)) : rowS g k 0 (l.take (i + 1)) = rowS g k 0 (l.take i) := by
  rw [row_step h, one, if_neg h0, List.append_nil]
theorem all_step {g : Nat} {l : List (List Int × List Int)} {x : List Int × List Int} (h : l[g]? = some x) : allS 0 (l.take (g + 1)) = allS 0 (l.take g) ++ (rowS g 0 0 x.1 ++ rowS g 1 0 x.2) := by
  have hi : g < l.length := (List.getElem?_eq_some_iff.1 h).1
  rw [take_succ h, allS_append, List.length_take, Nat.min_eq_left (by omega), Nat.zero_add]
  simp [allS, grpS]
theorem one_len (g k i : Nat) (p : Int) : (one g k i p).length ≤ 1 := by unfold one; split <;> simp
theorem rowS_len (g k : Nat) : ∀ (i : Nat) (l : List Int), (rowS g k i l).length ≤ l.length
  | i, [] => Nat.le_refl _
  | i, p :: l => by
    rw [rowS, List.length_append, List.length_cons]
    have := one_len g k i p
    have := rowS_len g k (i + 1) l
    omega
theorem allS_len : ∀ (g : Nat) (l : List (List Int × List Int)), (∀ x ∈ l, x.1.length ≤ 1000 ∧ x.2.length ≤ 1000) → (allS g l).length ≤ l.length * 2000
  | g, [], _ => by simp [allS]
  | g, x :: l, h => by
    rw [allS, List.length_append, List.length_cons, Nat.add_mul]
    have h1 := h x (by simp)
    have h2 := allS_len (g + 1) l (fun y hy => h y (by simp [hy]))
    have h3 := rowS_len g 0 0 x.1
    have h4 := rowS_len g 1 0 x.2
    rw [grpS, List.length_append]
    omega
theorem small_len {g : Nat} {l : List (List Int × List Int)} (hl : l.length ≤ 1000) (h : ∀ x ∈ l, x.1.length ≤ 1000 ∧ x.2.length ≤ 1000) : (allS g l).length ≤ 2000000 := by
  have := allS_len g l h
  omega
/-- The first place of a number. -/
def find (p : Int) (l : List Spt) : Option Spt := l.find? (fun x => x.p == p)
theorem find_none {p : Int} {l : List Spt} (h : ∀ x ∈ l, x.p ≠ p) : find p l = none := by
  unfold find
  rw [List.find?_eq_none]
  intro x hx
  simpa using h x hx
def where_ (T : Tab) (p : Int) : Option Spt := find p (spots T)
/-- Do two stand beside each other? -/
def beside (T : Tab) (p q : Int) : Bool := match where_ T p, where_ T q with
  | some a, some b => a.g == b.g && a.k != b.k
  | _, _ => false
end Go.Proofs.Ytbpfknkbiaplpaa.PlaceM
