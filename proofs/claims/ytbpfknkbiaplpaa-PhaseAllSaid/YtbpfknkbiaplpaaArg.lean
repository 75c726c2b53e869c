/- Slices that came in, element by element: where each lies, also in later worlds. No program in it. -/
import Derived.Below
import Derived.Test.YtbpfknkbiaplpaaTab
namespace Go.Proofs.Ytbpfknkbiaplpaa.Arg
open Go Go.RowKit Go.ChangeShapes Tab
section
variable {α : Type} {n : Nat} {f : α → List Value} {w u : World} {s : Sl} {l : List α}
/-- The elements of a slice: one address for all. -/
theorem rows_at (h : RowOf n f w s l) : ∃ x : Addr, (∀ q (hq : q < l.length), s.a = some x ∧ Lies w (x.add (q * n)) (f l[q])) ∧ l.length ≤ s.cap ∧ s.cap ≤ maxLen := by
  obtain ⟨h1, h2⟩ := h.len
  cases hs : s.a with
  | none =>
    refine ⟨⟨0, 0, none⟩, fun q hq => ?_, h1, h2⟩
    obtain ⟨x, e, _⟩ := h.at (List.getElem?_eq_getElem hq)
    rw [hs] at e; cases e
  | some y =>
    refine ⟨y, fun q hq => ?_, h1, h2⟩
    obtain ⟨x, e, k⟩ := h.at (List.getElem?_eq_getElem hq)
    rw [hs] at e
    obtain rfl := Option.some.inj e
    exact ⟨rfl, k⟩
/-- One-cell elements, in a later world. -/
theorem one_below {v : Value} {x : Addr} {q : Nat} (h : Lies w (x.add (q * 1)) [v]) (hb : Below w.heap.size w u) : u.cell? (x.add q) = some v := by
  have := Lies.below h hb 0 v rfl
  rwa [Tab.add_zero, Nat.mul_one] at this
/-- A slice of bools, as a function. -/
theorem bools_at {l : List Bool} (h : RowOf 1 (fun b : Bool => [Value.bool b]) w s l) : ∃ (x : Addr) (z : Nat → Bool), (∀ q, q < l.length → s.a = some x ∧ Lies w (x.add (q * 1)) [.bool (z q)]) ∧ l.length ≤ s.cap ∧ s.cap ≤ maxLen := by
  obtain ⟨x, h0, h1, h2⟩ := rows_at h
  refine ⟨x, fun q => l.getD q false, fun q hq => ?_, h1, h2⟩
  obtain ⟨e, k⟩ := h0 q hq
  refine ⟨e, ?_⟩
  show Lies w _ [Value.bool (l.getD q false)]
  rw [show l.getD q false = l[q] by simp [List.getD, List.getElem?_eq_getElem hq]]
  exact k
/-- A slice of integers, as a function. -/
theorem ints_at {l : List Int} (h : RowOf 1 (fun n : Int => [Tab.I n]) w s l) : ∃ (x : Addr) (z : Nat → Int), (∀ q, q < l.length → s.a = some x ∧ Lies w (x.add (q * 1)) [Tab.I (z q)]) ∧ l.length ≤ s.cap ∧ s.cap ≤ maxLen := by
  obtain ⟨x, h0, h1, h2⟩ := rows_at h
  refine ⟨x, fun q => l.getD q 0, fun q hq => ?_, h1, h2⟩
  obtain ⟨e, k⟩ := h0 q hq
  refine ⟨e, ?_⟩
  show Lies w _ [Tab.I (l.getD q 0)]
  rw [show l.getD q 0 = l[q] by simp [List.getD, List.getElem?_eq_getElem hq]]
  exact k
end
end Go.Proofs.Ytbpfknkbiaplpaa.Arg
