/- Slices of one's own that are gathered element by element (append in a loop), elements of n cells. No program in it. -/
import Derived.Test.YtbpfknkbiaplpaaTab
import Derived.OwnWalk
namespace Go.Proofs.Ytbpfknkbiaplpaa.Gath
open Go Go.RowKit
open Tab
section
variable {α : Type} {enc : α → List Value} {size : Nat} {B : Nat} {w w' : World} {e : TypeId} {v : Value} {l : List α}
/-- A slice of its own memory (laid since B) that holds the elements l. -/
def Owns (enc : α → List Value) (size B : Nat) (w : World) (e : TypeId) (v : Value) (l : List α) : Prop := w.ownsRow B e size v l.length (l.flatMap enc)
theorem Owns.nil : Owns enc size B w e (.slice none 0 0) ([] : List α) := World.ownsRow_nil _ _ _ _
theorem Owns.snoc {x : α} {v' : Value} (h : w.ownsRow B e size v' (l.length + 1) (l.flatMap enc ++ enc x)) : Owns enc size B w e v' (l ++ [x]) := by
  unfold Owns
  rw [List.length_append, List.flatMap_append, List.flatMap_cons, List.flatMap_nil, List.append_nil]
  exact h
theorem Owns.below (h : Owns enc size B w e v l) (hb : Below w.heap.size w w') : Owns enc size B w' e v l :=
  World.ownsRow.kept (row := none) h ⟨hb.os, hb.tape, hb.output, hb.size, fun j hj _ => hb.block j hj⟩ (by cases hv : v.ownBlock <;> simp)
theorem Owns.mono {B' : Nat} (h : Owns enc size B w e v l) (hb : B' ≤ B) : Owns enc size B' w e v l := by
  refine ⟨h.1, ?_⟩
  rcases h.2 with hn | ⟨g, cap, cur, rfl, h1, h2⟩
  · exact .inl hn
  · exact .inr ⟨g, cap, cur, rfl, by omega, h2⟩
theorem Owns.blk (h : Owns enc size B w e v l) (j : Nat) (hj : v.ownBlock = some j) : B ≤ j := by
  rcases h.2 with ⟨rfl, _⟩ | ⟨g, cap, cur, rfl, hb, _, _⟩
  · simp [Value.ownBlock] at hj
  · obtain rfl : g = j := by simpa [Value.ownBlock] using hj
    exact hb
theorem flat_len (henc : ∀ x, (enc x).length = size) : ∀ l : List α, (l.flatMap enc).length = l.length * size
  | [] => by simp
  | x :: l => by rw [List.flatMap_cons, List.length_append, henc, flat_len henc l, List.length_cons, Nat.add_mul]; omega
theorem flat_at (henc : ∀ x, (enc x).length = size) : ∀ (l : List α) (i : Nat) (x : α), l[i]? = some x → ((l.flatMap enc).drop (i * size)).take size = enc x
  | [], i, x, h => by simp at h
  | y :: l, 0, x, h => by
    obtain rfl : y = x := by simpa using h
    rw [Nat.zero_mul, List.drop_zero, List.flatMap_cons, ← henc y, List.take_left]
  | y :: l, i + 1, x, h => by
    rw [List.flatMap_cons, Nat.add_mul, Nat.one_mul, Nat.add_comm, ← henc y, List.drop_append, List.drop_of_length_le (by omega), List.nil_append, Nat.add_sub_cancel_left, henc y]
    exact flat_at henc l i x (by simpa using h)
/-- What was gathered reads as a row. -/
theorem Owns.row (h : Owns enc size B w e v l) (henc : ∀ x, (enc x).length = size) : ∃ s : Sl, v = s.val l.length ∧ RowOf size enc w s l := by
  rcases h.2 with ⟨rfl, h0⟩ | ⟨g, cap, cur, rfl, h1, h2, h3, h4, h5, h6⟩
  · have : l = [] := List.eq_nil_of_length_eq_zero h0
    subst this
    exact ⟨⟨none, 0⟩, rfl, RowOf.nil w⟩
  · refine ⟨⟨some ⟨g, 0, none⟩, cap⟩, rfl, .inr ⟨_, rfl, h3, h4, fun i x hx j u hu => ?_⟩⟩
    have hi : i < l.length := (List.getElem?_eq_some_iff.1 hx).1
    have hj : j < size := by rw [← henc x]; exact (List.getElem?_eq_some_iff.1 hu).1
    rw [Addr.add_mid, Nat.zero_add, Addr.add_mid, cell_of_row _ _ _ _ _ _ h2]
    have hf := flat_at henc l i x hx
    rw [← h6] at hf
    rw [← hf] at hu
    have hlt : i * size + j < l.length * size := by
      have : (i + 1) * size ≤ l.length * size := Nat.mul_le_mul_right _ hi
      rw [Nat.add_mul, Nat.one_mul] at this
      omega
    rw [List.getElem?_take, if_pos hj, List.getElem?_drop, List.getElem?_take, if_pos hlt, Array.getElem?_toList] at hu
    exact hu
end
end Go.Proofs.Ytbpfknkbiaplpaa.Gath
