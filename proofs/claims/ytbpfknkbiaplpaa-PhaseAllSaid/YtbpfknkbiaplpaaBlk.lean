/- Blocks of a call's own, known whole, as a list: how each step of a walk leaves them. No program in it. -/
import Derived.Below
import Derived.Laws.Rows
import Derived.Laws.Tables
import Derived.Laws.CopyOwn
import Derived.Test.YtbpfknkbiaplpaaQB
import Derived.Test.YtbpfknkbiaplpaaTab
namespace Go.Proofs.Ytbpfknkbiaplpaa.Blk
open Go Go.RowKit Go.ChangeShapes Tab
abbrev Bl : Type := Nat × Array Value × TypeId
structure Bks (w : World) (L : List Bl) (u : World) : Prop where
  bel : Below w.heap.size w u
  low : ∀ x ∈ L, w.heap.size ≤ x.1
  blk : ∀ x ∈ L, u.heap[x.1]? = some (.cells x.2.1 x.2.2 (0, 0))
  apart : (L.map (·.1)).Nodup
section
variable {w u v : World} {L : List Bl}
theorem lt_of {g : Nat} {o : Obj} (hg : u.heap[g]? = some o) : g < u.heap.size := (Array.getElem?_eq_some_iff.1 hg).1
theorem Bks.nil (w : World) : Bks w [] w := ⟨Below.refl _ _, by simp, by simp, by simp⟩
theorem Bks.step (h : Bks w L u) (hb : Below u.heap.size u v) : Bks w L v :=
  ⟨h.bel.trans (hb.mono h.bel.size), h.low, fun x hx => (hb.block _ (lt_of (h.blk x hx))).trans (h.blk x hx), h.apart⟩
theorem Bks.drew (h : Bks w L u) : Bks w L u.drew := ⟨h.bel.drew, h.low, h.blk, h.apart⟩
theorem Bks.lt (h : Bks w L u) {x : Bl} (hx : x ∈ L) : x.1 < u.heap.size := lt_of (h.blk x hx)
theorem Bks.alloc (h : Bks w L u) (cs : Array Value) (t : TypeId) : Bks w ((u.heap.size, cs, t) :: L) (u.alloc (.cells cs t)) := by
  refine ⟨h.bel.alloc h.bel.size _, ?_, ?_, ?_⟩
  · intro x hx
    rcases List.mem_cons.1 hx with rfl | hx
    · exact h.bel.size
    · exact h.low x hx
  · intro x hx
    rcases List.mem_cons.1 hx with rfl | hx
    · exact heap_alloc_new u _
    · rw [Below.heap_alloc _ _ _ (h.lt hx)]; exact h.blk x hx
  · rw [List.map_cons, List.nodup_cons]
    refine ⟨fun hm => ?_, h.apart⟩
    obtain ⟨x, hx, e⟩ := List.mem_map.1 hm
    have := h.lt hx
    simp only at e
    omega
theorem Bks.at (h : Bks w L u) (i : Nat) {g : Nat} {cs : Array Value} {t : TypeId} (hi : L[i]? = some (g, cs, t)) : u.heap[g]? = some (.cells cs t (0, 0)) := h.blk (g, cs, t) (List.mem_of_getElem? hi)
theorem Bks.cell (h : Bks w L u) (i j : Nat) {g : Nat} {cs : Array Value} {t : TypeId} {v : Value} (hi : L[i]? = some (g, cs, t)) (hv : cs[j]? = some v) : u.cell? ⟨g, j, none⟩ = some v := by rw [cell_of_row _ _ _ _ _ _ (h.at i hi), hv]
theorem Bks.frozen (h : Bks w L u) (i j : Nat) {g : Nat} {cs : Array Value} {t : TypeId} (hi : L[i]? = some (g, cs, t)) : u.frozen? ⟨g, j, none⟩ = false := frozen_of_row _ _ _ _ _ (h.at i hi)
theorem Bks.lies (h : Bks w L u) (i : Nat) {g : Nat} {cs : Array Value} {t : TypeId} (hi : L[i]? = some (g, cs, t)) : Lies u ⟨g, 0, none⟩ cs.toList := fun j v hv => by
  rw [Addr.add_mid, Nat.zero_add, cell_of_row _ _ _ _ _ _ (h.at i hi), ← hv, Array.getElem?_toList]
theorem Bks.ge (h : Bks w L u) (i : Nat) {g : Nat} {cs : Array Value} {t : TypeId} (hi : L[i]? = some (g, cs, t)) : w.heap.size ≤ g := h.low (g, cs, t) (List.mem_of_getElem? hi)
theorem nd_ne : ∀ {L : List Nat} {i j : Nat} {a b : Nat}, L.Nodup → L[i]? = some a → L[j]? = some b → i ≠ j → a ≠ b
  | [], _, _, _, _, _, h, _, _ => by simp at h
  | c :: L, 0, 0, _, _, _, _, _, h => absurd rfl h
  | c :: L, 0, j + 1, a, b, hn, hi, hj, _ => by
    simp at hi hj
    subst hi
    intro e
    subst e
    exact (List.nodup_cons.1 hn).1 (List.mem_of_getElem? hj)
  | c :: L, i + 1, 0, a, b, hn, hi, hj, _ => by
    simp at hi hj
    subst hj
    intro e
    subst e
    exact (List.nodup_cons.1 hn).1 (List.mem_of_getElem? hi)
  | c :: L, i + 1, j + 1, a, b, hn, hi, hj, h => nd_ne (List.nodup_cons.1 hn).2 (by simpa using hi) (by simpa using hj) (fun e => h (by rw [e]))
/-- A whole block is written anew. -/
theorem Bks.put (h : Bks w L u) (i : Nat) {g : Nat} {cs : Array Value} {t : TypeId} (hi : L[i]? = some (g, cs, t)) (cs' : Array Value) : Bks w (L.set i (g, cs', t)) (u.setRow g cs') := by
  have hlt : i < L.length := (List.getElem?_eq_some_iff.1 hi).1
  have hmap : (L.set i (g, cs', t)).map (·.1) = L.map (·.1) := by
    rw [List.map_set]
    apply List.ext_getElem?
    intro k
    rw [List.getElem?_set]
    split
    · rename_i e; subst e; rw [List.length_map, if_pos hlt, List.getElem?_map, hi]; rfl
    · rfl
  refine ⟨below_setRow h.bel (h.ge i hi) cs', ?_, ?_, by rw [hmap]; exact h.apart⟩
  · intro x hx
    rcases List.mem_or_eq_of_mem_set hx with hx | rfl
    · exact h.low x hx
    · exact h.ge i hi
  · intro x hx
    obtain ⟨k, hk⟩ := List.mem_iff_getElem?.1 hx
    rw [List.getElem?_set] at hk
    split at hk
    · rename_i e; subst e
      (try rw [if_pos hlt] at hk)
      obtain rfl := Option.some.inj hk
      exact setRow_heap _ _ _ _ _ _ (h.at i hi)
    · rename_i e
      have hne : x.1 ≠ g := nd_ne h.apart (i := k) (j := i) (by rw [List.getElem?_map, hk]; rfl) (by rw [List.getElem?_map, hi]; rfl) (fun e' => e e'.symm)
      rw [setRow_other _ _ _ _ hne]
      exact h.blk x (List.mem_of_getElem? hk)
/-- One cell of a block is written. -/
theorem Bks.set (h : Bks w L u) (i j : Nat) {g : Nat} {cs : Array Value} {t : TypeId} (hi : L[i]? = some (g, cs, t)) (v : Value) : Bks w (L.set i (g, cs.setIfInBounds j v, t)) (u.setCell ⟨g, j, none⟩ v) := by
  rw [setCell_eq_setRow u g j cs t (0, 0) v (h.at i hi)]
  exact h.put i hi _
/-- In a later world of the class 'below'. -/
theorem Bks.by (h : Bks w L u) (p : QB.By u.heap.size u) : Bks w L p.world := h.step p.below
theorem Bks.swap {a b : Bl} (h : Bks w (a :: b :: L) u) : Bks w (b :: a :: L) u :=
  ⟨h.bel, fun x hx => h.low x (by simp only [List.mem_cons] at hx ⊢; exact hx.elim (fun e => .inr (.inl e)) (fun e => e.elim .inl (fun e => .inr (.inr e)))), fun x hx => h.blk x (by simp only [List.mem_cons] at hx ⊢; exact hx.elim (fun e => .inr (.inl e)) (fun e => e.elim .inl (fun e => .inr (.inr e)))), by
    have := h.apart
    simp only [List.map_cons, List.nodup_cons, List.mem_cons, not_or] at this ⊢
    exact ⟨⟨fun e => this.1.1 e.symm, this.2.1⟩, this.1.2, this.2.2⟩⟩
/-- A block that is not asked for any more. -/
theorem Bks.drop {a : Bl} (h : Bks w (a :: L) u) : Bks w L u := ⟨h.bel, fun x hx => h.low x (List.mem_cons_of_mem _ hx), fun x hx => h.blk x (List.mem_cons_of_mem _ hx), (List.nodup_cons.1 h.apart).2⟩
end
end Go.Proofs.Ytbpfknkbiaplpaa.Blk
