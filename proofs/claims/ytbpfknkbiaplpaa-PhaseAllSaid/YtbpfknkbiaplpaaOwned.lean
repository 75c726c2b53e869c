/- Blocks of a call's own, each known whole, no two the same. No program in it. -/
import Derived.Test.YtbpfknkbiaplpaaCopy
namespace Go.Proofs.Ytbpfknkbiaplpaa.Owned
open Go Go.RowKit
open Tab Copy
structure Blk where
  at_ : Nat
  cells : List Value
  type : TypeId
def Own (B : Nat) (w : World) (L : List Blk) : Prop := (L.map Blk.at_).Nodup ∧ ∀ x ∈ L, B ≤ x.at_ ∧ w.heap[x.at_]? = some (.cells x.cells.toArray x.type (0, 0))
variable {B : Nat} {w w' : World} {L M : List Blk} {x : Blk}
theorem Own.nil : Own B w [] := ⟨by simp, fun x h => by simp at h⟩
theorem Own.get (h : Own B w L) (hx : x ∈ L) : w.heap[x.at_]? = some (.cells x.cells.toArray x.type (0, 0)) := (h.2 x hx).2
theorem Own.base (h : Own B w L) (hx : x ∈ L) : B ≤ x.at_ := (h.2 x hx).1
theorem Own.lt (h : Own B w L) (hx : x ∈ L) : x.at_ < w.heap.size := (Array.getElem?_eq_some_iff.1 (h.get hx)).1
theorem Own.step (h : Own B w L) (hb : Below w.heap.size w w') : Own B w' L := ⟨h.1, fun x hx => ⟨h.base hx, by rw [hb.block _ (h.lt hx)]; exact h.get hx⟩⟩
theorem Own.same (h : Own B w L) (hs : w'.heap = w.heap) : Own B w' L := ⟨h.1, fun x hx => ⟨h.base hx, by rw [hs]; exact h.get hx⟩⟩
theorem Own.perm (h : Own B w L) (hp : M.Perm L) : Own B w M := ⟨(hp.map Blk.at_).nodup_iff.2 h.1, fun x hx => h.2 x (hp.mem_iff.1 hx)⟩
theorem Own.tail (h : Own B w (x :: L)) : Own B w L := ⟨(List.nodup_cons.1 h.1).2, fun y hy => h.2 y (List.mem_cons_of_mem _ hy)⟩
/-- A new block. -/
theorem Own.add (h : Own B w L) (hb : Below w.heap.size w w') {g : Nat} {cs : List Value} {t : TypeId} (hg : w'.heap[g]? = some (.cells cs.toArray t (0, 0))) (hn : w.heap.size ≤ g) (hB : B ≤ w.heap.size) : Own B w' (⟨g, cs, t⟩ :: L) := by
  refine ⟨List.nodup_cons.2 ⟨fun hm => ?_, h.1⟩, fun y hy => ?_⟩
  · obtain ⟨y, hy, e⟩ := List.mem_map.1 hm
    have := h.lt hy
    have e' : y.at_ = g := e
    omega
  · rcases List.mem_cons.1 hy with rfl | hy
    · exact ⟨Nat.le_trans hB hn, hg⟩
    · exact (h.step hb).2 y hy
/-- The first block is written. -/
theorem Own.write (h : Own B w (x :: L)) {cs : List Value} (hg : w'.heap[x.at_]? = some (.cells cs.toArray x.type (0, 0))) (ho : ∀ j, j ≠ x.at_ → w'.heap[j]? = w.heap[j]?) : Own B w' (⟨x.at_, cs, x.type⟩ :: L) := by
  have hx := (List.nodup_cons.1 h.1).1
  refine ⟨List.nodup_cons.2 ⟨hx, (List.nodup_cons.1 h.1).2⟩, fun y hy => ?_⟩
  rcases List.mem_cons.1 hy with rfl | hy
  · exact ⟨(h.base (x := x) (List.mem_cons_self ..) : B ≤ x.at_), hg⟩
  · have hne : y.at_ ≠ x.at_ := fun e => hx (List.mem_map.2 ⟨y, hy, e⟩)
    exact ⟨h.base (List.mem_cons_of_mem _ hy), by rw [ho _ hne]; exact h.get (List.mem_cons_of_mem _ hy)⟩
theorem Own.write_row (h : Own B w (x :: L)) (cs : List Value) : Own B (w.setRow x.at_ cs.toArray) (⟨x.at_, cs, x.type⟩ :: L) :=
  h.write (setRow_heap _ _ _ _ _ _ (h.get (List.mem_cons_self ..))) (fun j hj => setRow_other _ _ _ _ hj)
theorem Own.write_cell (h : Own B w (x :: L)) (i : Nat) (v : Value) : Own B (w.setCell ⟨x.at_, i, none⟩ v) (⟨x.at_, x.cells.set i v, x.type⟩ :: L) := by
  refine h.write ?_ (fun j hj => heap_setCell_other _ _ _ _ hj)
  rw [heap_setCell_same _ _ _ _ _ _ (h.get (List.mem_cons_self ..))]
  congr 2
  simp
/-- Block number i of the list is written. -/
theorem Own.write_at {i : Nat} (h : Own B w L) (hx : L[i]? = some x) {cs : List Value} (hg : w'.heap[x.at_]? = some (.cells cs.toArray x.type (0, 0))) (ho : ∀ j, j ≠ x.at_ → w'.heap[j]? = w.heap[j]?) : Own B w' (L.set i ⟨x.at_, cs, x.type⟩) := by
  have hi : i < L.length := (List.getElem?_eq_some_iff.1 hx).1
  have hxi : L[i] = x := (List.getElem?_eq_some_iff.1 hx).2
  have hm : (L.set i ⟨x.at_, cs, x.type⟩).map Blk.at_ = L.map Blk.at_ := by
    rw [List.map_set]
    apply List.ext_getElem?
    intro j
    rw [List.getElem?_set]
    split
    · rename_i e
      subst e
      simp [hi, hxi]
    · rfl
  refine ⟨by rw [hm]; exact h.1, fun y hy => ?_⟩
  obtain ⟨j, hj⟩ := List.getElem?_of_mem hy
  rw [List.getElem?_set] at hj
  split at hj
  · rename_i e
    subst e
    obtain rfl := Option.some.inj hj
    exact ⟨(h.base (x := x) (List.mem_of_getElem? hx) : B ≤ x.at_), hg⟩
  · rename_i e
    have hyL := List.mem_of_getElem? hj
    have hne : y.at_ ≠ x.at_ := fun e' => by
      have h1 : (L.map Blk.at_)[j]? = some y.at_ := by rw [List.getElem?_map, hj]; rfl
      have h2 : (L.map Blk.at_)[i]? = some x.at_ := by rw [List.getElem?_map, hx]; rfl
      have hjl := (List.getElem?_eq_some_iff.1 h1).1
      have hil := (List.getElem?_eq_some_iff.1 h2).1
      have e1 := (List.getElem?_eq_some_iff.1 h1).2
      have e2 := (List.getElem?_eq_some_iff.1 h2).2
      have hp := List.pairwise_iff_getElem.1 h.1
      rcases Nat.lt_trichotomy i j with h3 | h3 | h3
      · exact hp i j hil hjl h3 (by rw [e1, e2, e'])
      · exact e h3
      · exact hp j i hjl hil h3 (by rw [e1, e2, e'])
    exact ⟨h.base hyL, by rw [ho _ hne]; exact h.get hyL⟩
theorem Own.row_at {i : Nat} (h : Own B w L) (hx : L[i]? = some x) (cs : List Value) : Own B (w.setRow x.at_ cs.toArray) (L.set i ⟨x.at_, cs, x.type⟩) :=
  h.write_at hx (setRow_heap _ _ _ _ _ _ (h.get (List.mem_of_getElem? hx))) (fun j hj => setRow_other _ _ _ _ hj)
theorem Own.cell_at {i : Nat} (h : Own B w L) (hx : L[i]? = some x) (o : Nat) (v : Value) : Own B (w.setCell ⟨x.at_, o, none⟩ v) (L.set i ⟨x.at_, x.cells.set o v, x.type⟩) := by
  refine h.write_at hx ?_ (fun j hj => heap_setCell_other _ _ _ _ hj)
  rw [heap_setCell_same _ _ _ _ _ _ (h.get (List.mem_of_getElem? hx))]
  congr 2
  simp
theorem Own.cell (h : Own B w L) (hx : x ∈ L) (i : Nat) : w.cell? ⟨x.at_, i, none⟩ = x.cells[i]? := by
  rw [cell_of_row _ _ _ _ _ _ (h.get hx)]; simp
theorem Own.frozen (h : Own B w L) (hx : x ∈ L) (i : Nat) : w.frozen? ⟨x.at_, i, none⟩ = false := frozen_of_row _ _ _ _ _ (h.get hx)
/-- What is below B stays as it is when one's own is written. -/
theorem below_write {a : World} (hb : Below B a w) {g i : Nat} (hg : B ≤ g) (v : Value) : Below B a (w.setCell ⟨g, i, none⟩ v) := hb.setCell (p := ⟨g, i, none⟩) hg v
end Go.Proofs.Ytbpfknkbiaplpaa.Owned
