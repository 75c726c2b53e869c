/- 9 texts in one file, in build order. -/
import Derived.Test.YtjgpljnbeolapaaRows
import Derived.Test.YtjgpljnbeolapaaPart04
import Derived.Test.YtjgpljnbeolapaaPart05
import Derived.Test.YtjgpljnbeolapaaPart06
import Derived.Deep.Cut
import Derived.LoopTactic
import Derived.Great.BuildSlice
import Derived.Test.YtjgpljnbeolapaaPart02
import Derived.Test.YtjgpljnbeolapaaPart03
import Derived.BigQuiet
set_option linter.unusedVariables false
set_option linter.unusedSimpArgs false
set_option linter.unusedSectionVars false
set_option maxHeartbeats 8000000
set_option maxRecDepth 100000
namespace Go.Proofs.Ytjgpljnbeolapaa
namespace CodeAt
open Go
def firstR : Code → Option Nat
  | .region i _ _ => some i
  | .seq a b => (firstR a).or (firstR b)
  | .cond _ a b => (firstR a).or (firstR b)
  | .block _ b => firstR b
  | .loop b => firstR b
  | .scope b => firstR b
  | _ => none
def findL (id : Nat) : Code → Option Code
  | .seq a b => (findL id a).or (findL id b)
  | .cond _ a b => (findL id a).or (findL id b)
  | .block _ b => findL id b
  | .loop b => if firstR b = some id then some (.loop b) else findL id b
  | .scope b => findL id b
  | _ => none
/-- The loop of a function that begins with region number id. -/
def lp (id : Nat) (f : Func) : Code := ((f.body.bind (findL id)).getD .skip)
end CodeAt
namespace GenT
open Go Go.RowKit
open Tab Gath GenG Clone PlaceM
open RefS (num num_range)
/-- The first n of eight are made, the others are as they were. -/
def upd {α : Type} (f : Nat → α) (z : α) (n : Nat) : List α := (List.range 8).map fun i => if i < n then f i else z
theorem upd_len {α : Type} (f : Nat → α) (z : α) (n : Nat) : (upd f z n).length = 8 := by simp [upd]
theorem upd_succ {α : Type} (f : Nat → α) (z : α) (n : Nat) : (upd f z n).set n (f n) = upd f z (n + 1) := by
  apply List.ext_getElem?
  intro j
  unfold upd
  rw [List.getElem?_set]
  simp only [List.length_map, List.length_range, List.getElem?_map]
  by_cases hj : j < 8
  · rw [List.getElem?_range hj]
    simp only [Option.map_some]
    by_cases e : n = j
    · subst e; rw [if_pos rfl, if_pos hj, if_pos (by omega)]
    · rw [if_neg e]; congr 1
      by_cases h2 : j < n
      · rw [if_pos h2, if_pos (by omega)]
      · rw [if_neg h2, if_neg (by omega)]
  · have hn : (List.range 8)[j]? = none := by rw [List.getElem?_eq_none]; simp; omega
    rw [hn]
    simp only [Option.map_none]
    by_cases e : n = j
    · rw [if_pos e, if_neg (by omega)]
    · rw [if_neg e]
theorem upd_at {α : Type} (f : Nat → α) (z : α) (n j : Nat) (h : j < 8) : (upd f z n)[j]? = some (if j < n then f j else z) := by
  unfold upd; rw [List.getElem?_map, List.getElem?_range h]; rfl
/-- One pair of phases: do they conflict? -/
def cset (L : List Int) (T : Tab) (p q : Nat) (C : List Int) : List Int :=
  if beside T p q = false ∧ num L (110 + 8 * p + q) 9 ≠ 1 then (C.set p (SetM.withN (C.getD p 0) q : Nat)).set q (SetM.withN ((C.set p (SetM.withN (C.getD p 0) q : Nat)).getD q 0) p : Nat) else C
def crow (L : List Int) (T : Tab) (p : Nat) (C : List Int) : Nat → List Int
  | 0 => C
  | q + 1 => cset L T p q (crow L T p C q)
def call (L : List Int) (T : Tab) (C : List Int) : Nat → List Int
  | 0 => C
  | p + 1 => crow L T p (call L T C p) p
theorem cset_len (L : List Int) (T : Tab) (p q : Nat) (C : List Int) : (cset L T p q C).length = C.length := by unfold cset; split <;> simp
theorem crow_len (L : List Int) (T : Tab) (p : Nat) (C : List Int) : ∀ q, (crow L T p C q).length = C.length
  | 0 => rfl
  | q + 1 => by rw [crow, cset_len, crow_len L T p C q]
theorem call_len (L : List Int) (T : Tab) (C : List Int) : ∀ p, (call L T C p).length = C.length
  | 0 => rfl
  | p + 1 => by rw [call, crow_len, call_len L T C p]
/-- A list that is made from its number k down to 1. -/
def down {α : Type} (f : Nat → α) (k : Nat) : Nat → List α
  | 0 => []
  | j + 1 => down f k j ++ [f (k - j)]
theorem down_len {α : Type} (f : Nat → α) (k : Nat) : ∀ j, (down f k j).length = j
  | 0 => rfl
  | j + 1 => by rw [down, List.length_append, down_len f k j]; rfl
def genBs (L : List Int) (i n : Nat) : Bs := ⟨max 1 (bits .and .i64 (num L (330 + 2 * i) 256) (GenR.maskV n)), 1 + num L (331 + 2 * i) 30⟩
def maxW (T : Tab) : Nat → Int
  | 0 => 0
  | p + 1 => max (maxW T p) (WaitS.waitS T p)
def zTab : Tab := ⟨[zPh, zPh, zPh, zPh, zPh, zPh, zPh, zPh], [], [0, 0, 0, 0, 0, 0, 0, 0], [], [], [], 0, 0, 0, 0, 0, [0, 0, 0, 0, 0, 0, 0, 0], 0, 0⟩
def tab1 (L : List Int) : Tab := { zTab with groups := genGs L }
def tabP (L : List Int) (n : Nat) : Tab := { tab1 L with phases := upd (fun p => GenP.genPh L (10 + 12 * p)) zPh n, flash := upd (fun _ => 1) 0 n }
def tabC (L : List Int) : Tab := { tabP L (genN L) with conflict := call L (tab1 L) [0, 0, 0, 0, 0, 0, 0, 0] (genN L) }
def tabF (L : List Int) : Tab := if num L 174 ((genN L : Int) + 1) < genN L then { tabC L with flash := (tabC L).flash.set (num L 174 ((genN L : Int) + 1)).toNat 2 } else tabC L
def tabD (L : List Int) (j : Nat) : Tab := { tabF L with dets := down (fun i => GenD.genDet L (180 + 8 * i) (genN L)) (num L 175 9).toNat j }
def tabR (L : List Int) (j : Nat) : Tab := { tabD L (num L 175 9).toNat with rails := down (fun i => GenR.genRl (tab1 L) L (260 + 16 * i) (genN L)) (num L 176 4 % 3).toNat j }
def tabB (L : List Int) (j : Nat) : Tab := { tabR L (num L 176 4 % 3).toNat with buses := down (fun i => genBs L i (genN L)) (num L 177 3).toNat j }
def tabS (L : List Int) : Tab := { tabB L (num L 177 3).toNat with extend := num L 178 12, budget := num L 179 40, start := num L 180 8, revert := num L 181 8, least := num L 182 12, share := num L 183 4 }
/-- The table by the numbers L. -/
def genTab (L : List Int) : Tab := if (num L 176 4 % 3).toNat = 0 then tabS L else { tabS L with window := maxW (tabS L) (genN L) }
theorem beside_same {T U : Tab} (h : T.groups = U.groups) (p q : Int) : PlaceM.beside T p q = PlaceM.beside U p q := by
  unfold PlaceM.beside; unfold where_; unfold PlaceM.spots; rw [h]
/-! ### How a table's cells change -/
theorem cells_phase {T : Tab} (hd : Hd) (h8 : T.phases.length = 8) (p : Nat) (hp : p < 8) (x : Ph) : (T.cells hd).take (13 * p) ++ x.cells ++ (T.cells hd).drop (13 * p + 13) = { T with phases := T.phases.set p x }.cells hd := by
  obtain ⟨a0, a1, a2, a3, a4, a5, a6, a7, e⟩ := eight h8
  obtain ⟨phases, groups, conflict, dets, rails, buses, extend, budget, start, revert, least, flash, window, share⟩ := T
  simp only at e
  subst e
  match p, hp with
  | 0, _ | 1, _ | 2, _ | 3, _ | 4, _ | 5, _ | 6, _ | 7, _ => rfl
theorem cells_cut {T : Tab} (hd : Hd) (h8 : T.phases.length = 8) (hc : T.conflict.length = 8) (hf : T.flash.length = 8) : (T.cells hd).length = 131 := by
  obtain ⟨a0, a1, a2, a3, a4, a5, a6, a7, e⟩ := eight h8
  obtain ⟨c0, c1, c2, c3, c4, c5, c6, c7, e2⟩ := eight hc
  obtain ⟨f0, f1, f2, f3, f4, f5, f6, f7, e3⟩ := eight hf
  obtain ⟨phases, groups, conflict, dets, rails, buses, extend, budget, start, revert, least, flash, window, share⟩ := T
  simp only at e e2 e3
  subst e e2 e3
  rfl
theorem cells_conflict {T : Tab} (hd : Hd) (h8 : T.phases.length = 8) (hc : T.conflict.length = 8) (p : Nat) (hp : p < 8) (x : Int) : (T.cells hd).set (105 + p) (I x) = { T with conflict := T.conflict.set p x }.cells hd := by
  obtain ⟨a0, a1, a2, a3, a4, a5, a6, a7, e⟩ := eight h8
  obtain ⟨c0, c1, c2, c3, c4, c5, c6, c7, e2⟩ := eight hc
  obtain ⟨phases, groups, conflict, dets, rails, buses, extend, budget, start, revert, least, flash, window, share⟩ := T
  simp only at e e2
  subst e e2
  match p, hp with
  | 0, _ | 1, _ | 2, _ | 3, _ | 4, _ | 5, _ | 6, _ | 7, _ => rfl
theorem cells_flash {T : Tab} (hd : Hd) (h8 : T.phases.length = 8) (hc : T.conflict.length = 8) (hf : T.flash.length = 8) (p : Nat) (hp : p < 8) (x : Int) : (T.cells hd).set (121 + p) (I x) = { T with flash := T.flash.set p x }.cells hd := by
  obtain ⟨a0, a1, a2, a3, a4, a5, a6, a7, e⟩ := eight h8
  obtain ⟨c0, c1, c2, c3, c4, c5, c6, c7, e2⟩ := eight hc
  obtain ⟨f0, f1, f2, f3, f4, f5, f6, f7, e3⟩ := eight hf
  obtain ⟨phases, groups, conflict, dets, rails, buses, extend, budget, start, revert, least, flash, window, share⟩ := T
  simp only at e e2 e3
  subst e e2 e3
  match p, hp with
  | 0, _ | 1, _ | 2, _ | 3, _ | 4, _ | 5, _ | 6, _ | 7, _ => rfl
theorem cells_extend {T : Tab} (hd : Hd) (h8 : T.phases.length = 8) (hc : T.conflict.length = 8) (x : Int) : (T.cells hd).set 116 (I x) = { T with extend := x }.cells hd := by
  obtain ⟨a0, a1, a2, a3, a4, a5, a6, a7, e⟩ := eight h8
  obtain ⟨c0, c1, c2, c3, c4, c5, c6, c7, e2⟩ := eight hc
  obtain ⟨phases, groups, conflict, dets, rails, buses, extend, budget, start, revert, least, flash, window, share⟩ := T
  simp only at e e2
  subst e e2
  rfl
theorem cells_budget {T : Tab} (hd : Hd) (h8 : T.phases.length = 8) (hc : T.conflict.length = 8) (x : Int) : (T.cells hd).set 117 (I x) = { T with budget := x }.cells hd := by
  obtain ⟨a0, a1, a2, a3, a4, a5, a6, a7, e⟩ := eight h8
  obtain ⟨c0, c1, c2, c3, c4, c5, c6, c7, e2⟩ := eight hc
  obtain ⟨phases, groups, conflict, dets, rails, buses, extend, budget, start, revert, least, flash, window, share⟩ := T
  simp only at e e2
  subst e e2
  rfl
theorem cells_start {T : Tab} (hd : Hd) (h8 : T.phases.length = 8) (hc : T.conflict.length = 8) (x : Int) : (T.cells hd).set 118 (I x) = { T with start := x }.cells hd := by
  obtain ⟨a0, a1, a2, a3, a4, a5, a6, a7, e⟩ := eight h8
  obtain ⟨c0, c1, c2, c3, c4, c5, c6, c7, e2⟩ := eight hc
  obtain ⟨phases, groups, conflict, dets, rails, buses, extend, budget, start, revert, least, flash, window, share⟩ := T
  simp only at e e2
  subst e e2
  rfl
theorem cells_revert {T : Tab} (hd : Hd) (h8 : T.phases.length = 8) (hc : T.conflict.length = 8) (x : Int) : (T.cells hd).set 119 (I x) = { T with revert := x }.cells hd := by
  obtain ⟨a0, a1, a2, a3, a4, a5, a6, a7, e⟩ := eight h8
  obtain ⟨c0, c1, c2, c3, c4, c5, c6, c7, e2⟩ := eight hc
  obtain ⟨phases, groups, conflict, dets, rails, buses, extend, budget, start, revert, least, flash, window, share⟩ := T
  simp only at e e2
  subst e e2
  rfl
theorem cells_least {T : Tab} (hd : Hd) (h8 : T.phases.length = 8) (hc : T.conflict.length = 8) (x : Int) : (T.cells hd).set 120 (I x) = { T with least := x }.cells hd := by
  obtain ⟨a0, a1, a2, a3, a4, a5, a6, a7, e⟩ := eight h8
  obtain ⟨c0, c1, c2, c3, c4, c5, c6, c7, e2⟩ := eight hc
  obtain ⟨phases, groups, conflict, dets, rails, buses, extend, budget, start, revert, least, flash, window, share⟩ := T
  simp only at e e2
  subst e e2
  rfl
theorem cells_window {T : Tab} (hd : Hd) (h8 : T.phases.length = 8) (hc : T.conflict.length = 8) (hf : T.flash.length = 8) (x : Int) : (T.cells hd).set 129 (I x) = { T with window := x }.cells hd := by
  obtain ⟨a0, a1, a2, a3, a4, a5, a6, a7, e⟩ := eight h8
  obtain ⟨c0, c1, c2, c3, c4, c5, c6, c7, e2⟩ := eight hc
  obtain ⟨f0, f1, f2, f3, f4, f5, f6, f7, e3⟩ := eight hf
  obtain ⟨phases, groups, conflict, dets, rails, buses, extend, budget, start, revert, least, flash, window, share⟩ := T
  simp only at e e2 e3
  subst e e2 e3
  rfl
theorem cells_share {T : Tab} (hd : Hd) (h8 : T.phases.length = 8) (hc : T.conflict.length = 8) (hf : T.flash.length = 8) (x : Int) : (T.cells hd).set 130 (I x) = { T with share := x }.cells hd := by
  obtain ⟨a0, a1, a2, a3, a4, a5, a6, a7, e⟩ := eight h8
  obtain ⟨c0, c1, c2, c3, c4, c5, c6, c7, e2⟩ := eight hc
  obtain ⟨f0, f1, f2, f3, f4, f5, f6, f7, e3⟩ := eight hf
  obtain ⟨phases, groups, conflict, dets, rails, buses, extend, budget, start, revert, least, flash, window, share⟩ := T
  simp only at e e2 e3
  subst e e2 e3
  rfl
theorem cells_dets {T : Tab} (hd : Hd) (h8 : T.phases.length = 8) (hc : T.conflict.length = 8) (s : Sl) (l : List Det) : (T.cells hd).set 113 (s.val l.length) = { T with dets := l }.cells ⟨hd.g, s, hd.r, hd.b⟩ := by
  obtain ⟨a0, a1, a2, a3, a4, a5, a6, a7, e⟩ := eight h8
  obtain ⟨c0, c1, c2, c3, c4, c5, c6, c7, e2⟩ := eight hc
  obtain ⟨phases, groups, conflict, dets, rails, buses, extend, budget, start, revert, least, flash, window, share⟩ := T
  simp only at e e2
  subst e e2
  rfl
theorem cells_rails {T : Tab} (hd : Hd) (h8 : T.phases.length = 8) (hc : T.conflict.length = 8) (s : Sl) (l : List Rl) : (T.cells hd).set 114 (s.val l.length) = { T with rails := l }.cells ⟨hd.g, hd.d, s, hd.b⟩ := by
  obtain ⟨a0, a1, a2, a3, a4, a5, a6, a7, e⟩ := eight h8
  obtain ⟨c0, c1, c2, c3, c4, c5, c6, c7, e2⟩ := eight hc
  obtain ⟨phases, groups, conflict, dets, rails, buses, extend, budget, start, revert, least, flash, window, share⟩ := T
  simp only at e e2
  subst e e2
  rfl
theorem cells_buses {T : Tab} (hd : Hd) (h8 : T.phases.length = 8) (hc : T.conflict.length = 8) (s : Sl) (l : List Bs) : (T.cells hd).set 115 (s.val l.length) = { T with buses := l }.cells ⟨hd.g, hd.d, hd.r, s⟩ := by
  obtain ⟨a0, a1, a2, a3, a4, a5, a6, a7, e⟩ := eight h8
  obtain ⟨c0, c1, c2, c3, c4, c5, c6, c7, e2⟩ := eight hc
  obtain ⟨phases, groups, conflict, dets, rails, buses, extend, budget, start, revert, least, flash, window, share⟩ := T
  simp only at e e2
  subst e e2
  rfl
theorem cells_groups {T : Tab} (hd : Hd) (h8 : T.phases.length = 8) (s : Sl) (l : List (List Int × List Int)) : (T.cells hd).set 104 (s.val l.length) = { T with groups := l }.cells ⟨s, hd.d, hd.r, hd.b⟩ := by
  obtain ⟨a0, a1, a2, a3, a4, a5, a6, a7, e⟩ := eight h8
  obtain ⟨phases, groups, conflict, dets, rails, buses, extend, budget, start, revert, least, flash, window, share⟩ := T
  simp only at e
  subst e
  rfl
/-! ### The box -/
def KT (w : World) (s : Sl) (t : TypeId) : Prop := ∀ x, s.a = some x → ∃ cs : Array Value, w.heap[x.block]? = some (.cells cs t (0, 0))
theorem KT.grown {w w' : World} {s : Sl} {t : TypeId} {row : Option Nat} (h : KT w s t) (hg : w.grownBy w' row) (hne : ∀ x, s.a = some x → some x.block ≠ row) : KT w' s t := fun x hx => by
  obtain ⟨cs, hc⟩ := h x hx
  exact ⟨cs, (hg.block _ (Array.getElem?_eq_some_iff.1 hc).1 (hne x hx)).trans hc⟩
theorem KT.ne {w : World} {s : Sl} {b : Nat} {cs : Array Value} {t t' : TypeId} (h : KT w s t) (hb : w.heap[b]? = some (.cells cs t' (0, 0))) (ht : t' ≠ t) : ∀ x, s.a = some x → x.block ≠ b := by
  intro x hx e
  obtain ⟨ds, hc⟩ := h x hx
  rw [e, hb] at hc
  simp at hc
  exact ht hc.2
theorem row_grown {α : Type} {n : Nat} {enc : α → List Value} {w w' : World} {s : Sl} {l : List α} {row : Option Nat} (h : RowOf n enc w s l) (hg : w.grownBy w' row) (hne : ∀ x, s.a = some x → some x.block ≠ row) : RowOf n enc w' s l := by
  rcases h with h | ⟨x, h1, h2, h3, h4⟩
  · exact .inl h
  · exact .inr ⟨x, h1, h2, h3, fun i v hv j u hu => hg.cell (h4 i v hv j u hu) (by rw [add_block, add_block]; exact hne x h1)⟩
/-- The groups of a table, in blocks of their types. -/
def GrT (w : World) (s : Sl) (l : List (List Int × List Int)) : Prop := ∃ gs : List Gr, gs.map Gr.data = l ∧ RowOf 2 Gr.cells w s gs ∧ KT w s 92 ∧ ∀ g ∈ gs, RowI w g.s0 g.r0 ∧ RowI w g.s1 g.r1
theorem GrT.grown {w w' : World} {s : Sl} {l : List (List Int × List Int)} {row : Option Nat} (h : GrT w s l) (hg : w.grownBy w' row) (hr : ∀ m, row = some m → ∃ cs t, w.heap[m]? = some (.cells cs t (0, 0)) ∧ t ≠ 92 ∧ t ≠ 3) : GrT w' s l := by
  obtain ⟨gs, h1, h2, h3, h4⟩ := h
  have hI : ∀ (s : Sl) (l : List Int), RowI w s l → RowI w' s l := fun s l hs => hs.grown hg (fun x hx e => by
    obtain ⟨cs, t, hb, _, ht⟩ := hr _ e.symm
    exact hs.ne hb ht x hx rfl)
  have hn : ∀ x, s.a = some x → some x.block ≠ row := fun x hx e => by
    obtain ⟨cs, t, hb, ht, _⟩ := hr _ e.symm
    exact h3.ne hb ht x hx rfl
  exact ⟨gs, h1, row_grown h2 hg hn, h3.grown hg hn, fun g hgm => ⟨hI _ _ (h4 g hgm).1, hI _ _ (h4 g hgm).2⟩⟩
theorem GrT.lie {w : World} {s : Sl} {l : List (List Int × List Int)} (h : GrT w s l) : ∃ gs : List Gr, gs.map Gr.data = l ∧ GroupsLie w s gs := by
  obtain ⟨gs, h1, h2, h3, h4⟩ := h
  exact ⟨gs, h1, h2, fun g hg => ⟨(h4 g hg).1.1, (h4 g hg).2.1⟩⟩
def zHd : Hd := ⟨⟨none, 0⟩, ⟨none, 0⟩, ⟨none, 0⟩, ⟨none, 0⟩⟩
/-- The generator's two boxes: the result's, and the table that is built. -/
structure Bx (w : World) (hd : Hd) (T : Tab) (W : World) : Prop where
  bel : Below w.heap.size w W
  res : W.heap[w.heap.size]? = some (.cells (zTab.cells zHd).toArray 32 (0, 0))
  blk : W.heap[w.heap.size + 1]? = some (.cells (T.cells hd).toArray 32 (0, 0))
  ph : T.phases.length = 8
  cf : T.conflict.length = 8
  fl : T.flash.length = 8
  groups : GrT W hd.g T.groups
  dets : Owns Det.cells 7 w.heap.size W 73 (hd.d.val T.dets.length) T.dets
  rails : Owns Rl.cells 11 w.heap.size W 76 (hd.r.val T.rails.length) T.rails
  buses : Owns Bs.cells 2 w.heap.size W 79 (hd.b.val T.buses.length) T.buses
  gbk : ∀ x, hd.g.a = some x → ∃ g, x = ⟨g, 0, none⟩ ∧ w.heap.size ≤ g
theorem own_is {α : Type} {enc : α → List Value} {n B : Nat} {w : World} {t : TypeId} {s : Sl} {l : List α} (henc : ∀ x, (enc x).length = n) (h : Owns enc n B w t (s.val l.length) l) : RowOf n enc w s l := by
  obtain ⟨s', e, r⟩ := Owns.row h henc
  obtain ⟨a, c⟩ := s
  obtain ⟨a', c'⟩ := s'
  simp only [Sl.val, Value.slice.injEq] at e
  obtain ⟨rfl, _, rfl⟩ := e
  exact r
theorem Bx.tab {w W : World} {hd : Hd} {T : Tab} (h : Bx w hd T W) : IsTab W hd T :=
  ⟨h.ph, h.cf, h.fl, h.groups.lie, own_is (fun _ => rfl) h.dets, own_is (fun _ => rfl) h.rails, own_is (fun _ => rfl) h.buses⟩
theorem Bx.size {w W : World} {hd : Hd} {T : Tab} (h : Bx w hd T W) : w.heap.size + 1 < W.heap.size := (Array.getElem?_eq_some_iff.1 h.blk).1
theorem Bx.step {w W W' : World} {hd : Hd} {T : Tab} (h : Bx w hd T W) (hb : Below W.heap.size W W') : Bx w hd T W' :=
  ⟨h.bel.trans (hb.mono h.bel.size), (hb.block _ (by have := h.size; omega)).trans h.res, (hb.block _ h.size).trans h.blk, h.ph, h.cf, h.fl, h.groups.grown (grown_below hb none) (fun m e => by cases e), h.dets.below hb, h.rails.below hb, h.buses.below hb, h.gbk⟩
/-- A block that is neither of the two boxes nor another type's is written. -/
theorem Bx.cell {w W : World} {hd : Hd} {T : Tab} (h : Bx w hd T W) (i : Nat) : W.cell? ⟨w.heap.size + 1, i, none⟩ = (T.cells hd)[i]? := by
  rw [cell_of_row _ _ _ _ _ _ h.blk]; simp
theorem Bx.frozen {w W : World} {hd : Hd} {T : Tab} (h : Bx w hd T W) (i : Nat) : W.frozen? ⟨w.heap.size + 1, i, none⟩ = false := frozen_of_row _ _ _ _ _ h.blk
/-- The table's box is written; its lists stay. -/
theorem Bx.write {w W W' : World} {hd : Hd} {T U : Tab} (h : Bx w hd T W) (hg : W.grownBy W' (some (w.heap.size + 1))) (hb : W'.heap[w.heap.size + 1]? = some (.cells (U.cells hd).toArray 32 (0, 0)))
    (h1 : U.phases.length = 8) (h2 : U.conflict.length = 8) (h3 : U.flash.length = 8) (e1 : U.groups = T.groups) (e2 : U.dets = T.dets) (e3 : U.rails = T.rails) (e4 : U.buses = T.buses) : Bx w hd U W' := by
  refine ⟨h.bel.grown hg h.bel.size (fun k hk => by cases hk; omega), ?_, hb, h1, h2, h3, ?_, ?_, ?_, ?_, h.gbk⟩
  · exact (hg.block _ (by have := h.size; omega) (fun e => by simp at e)).trans h.res
  · rw [e1]
    exact h.groups.grown hg (fun m e => by cases e; exact ⟨_, _, h.blk, by decide, by decide⟩)
  · rw [e2]; exact own_kept h.dets hg (fun m hm e => by cases e; exact own_ne h.dets h.blk (by decide) hm)
  · rw [e3]; exact own_kept h.rails hg (fun m hm e => by cases e; exact own_ne h.rails h.blk (by decide) hm)
  · rw [e4]; exact own_kept h.buses hg (fun m hm e => by cases e; exact own_ne h.buses h.blk (by decide) hm)
/-- One number of the table. -/
theorem Bx.set {w W : World} {hd : Hd} {T U : Tab} (h : Bx w hd T W) (i : Nat) (v : Value) (hc : (T.cells hd).set i v = U.cells hd)
    (h1 : U.phases.length = 8) (h2 : U.conflict.length = 8) (h3 : U.flash.length = 8) (e1 : U.groups = T.groups) (e2 : U.dets = T.dets) (e3 : U.rails = T.rails) (e4 : U.buses = T.buses) : Bx w hd U (W.setCell ⟨w.heap.size + 1, i, none⟩ v) :=
  h.write (grown_set _ _ _ _) (by rw [heap_setCell_same _ _ _ _ _ _ h.blk, ← hc]; simp) h1 h2 h3 e1 e2 e3 e4
theorem setRow_grown (W : World) (b : Nat) (cs : Array Value) (h : b < W.heap.size) : W.grownBy (W.setRow b cs) (some b) :=
  ⟨rfl, rfl, rfl, by simp [World.setRow], fun j _ hj => setRow_other _ _ _ _ (fun e => hj (by rw [e]))⟩
theorem Bx.put_dets {w W W' : World} {hd : Hd} {T : Tab} {v' : Value} (x : Det) (h : Bx w hd T W) (hg : W.grownBy W' (hd.d.val T.dets.length).ownBlock)
    (ho : W'.ownsRow w.heap.size 73 7 v' (T.dets.length + 1) (T.dets.flatMap Det.cells ++ x.cells)) :
    (W'.heap[w.heap.size + 1]? = some (.cells (T.cells hd).toArray 32 (0, 0))) ∧ ∃ a' c', v' = .slice a' (T.dets.length + 1) c' ∧ Bx w ⟨hd.g, ⟨a', c'⟩, hd.r, hd.b⟩ { T with dets := T.dets ++ [x] } (W'.setCell ⟨w.heap.size + 1, 113, none⟩ v') := by
  have hne : ∀ {b : Nat} {cs : Array Value}, W.heap[b]? = some (.cells cs 32 (0, 0)) → some b ≠ (hd.d.val T.dets.length).ownBlock := fun hb e => own_ne h.dets hb (by decide) e.symm
  have hbx := (hg.block _ h.size (hne h.blk)).trans h.blk
  have hrs := (hg.block _ (by have := h.size; omega) (hne h.res)).trans h.res
  have hO : Owns Det.cells 7 w.heap.size W' 73 v' (T.dets ++ [x]) := Owns.snoc ho
  obtain ⟨⟨a', c'⟩, hs, hr⟩ := Owns.row hO (fun _ => rfl)
  refine ⟨hbx, a', c', by rw [hs, List.length_append]; rfl, ?_⟩
  refine ⟨?_, ?_, ?_, h.ph, h.cf, h.fl, ?_, by rw [show Sl.val ⟨a', c'⟩ (T.dets ++ [x]).length = v' from by rw [hs]]; exact own_kept hO (grown_set _ _ _ _) (fun m hm e => by cases e; exact own_ne hO hbx (by decide) hm), own_kept (own_kept h.rails hg (fun m hm e => by obtain ⟨ds, hd2⟩ := own_type h.dets _ e; exact own_ne h.rails hd2 (by decide) hm)) (grown_set _ _ _ _) (fun m hm e => by cases e; exact own_ne (own_kept h.rails hg (fun m hm e => by obtain ⟨ds, hd2⟩ := own_type h.dets _ e; exact own_ne h.rails hd2 (by decide) hm)) hbx (by decide) hm), own_kept (own_kept h.buses hg (fun m hm e => by obtain ⟨ds, hd2⟩ := own_type h.dets _ e; exact own_ne h.buses hd2 (by decide) hm)) (grown_set _ _ _ _) (fun m hm e => by cases e; exact own_ne (own_kept h.buses hg (fun m hm e => by obtain ⟨ds, hd2⟩ := own_type h.dets _ e; exact own_ne h.buses hd2 (by decide) hm)) hbx (by decide) hm), h.gbk⟩
  · exact (h.bel.grown hg h.bel.size (fun k hk => h.dets.blk k hk)).setCell (p := ⟨w.heap.size + 1, 113, none⟩) (by simp) v'
  · rw [heap_setCell_other _ _ _ _ (by simp)]; exact hrs
  · rw [heap_setCell_same _ _ _ _ _ _ hbx, ← cells_dets hd h.ph h.cf ⟨a', c'⟩ (T.dets ++ [x]), ← hs]; simp
  · exact (h.groups.grown hg (fun m e => by obtain ⟨ds, hd2⟩ := own_type h.dets _ e; exact ⟨ds, _, hd2, by decide, by decide⟩)).grown (grown_set _ _ _ _) (fun m e => by cases e; exact ⟨_, _, hbx, by decide, by decide⟩)
theorem Bx.put_rails {w W W' : World} {hd : Hd} {T : Tab} {v' : Value} (x : Rl) (h : Bx w hd T W) (hg : W.grownBy W' (hd.r.val T.rails.length).ownBlock)
    (ho : W'.ownsRow w.heap.size 76 11 v' (T.rails.length + 1) (T.rails.flatMap Rl.cells ++ x.cells)) :
    (W'.heap[w.heap.size + 1]? = some (.cells (T.cells hd).toArray 32 (0, 0))) ∧ ∃ a' c', v' = .slice a' (T.rails.length + 1) c' ∧ Bx w ⟨hd.g, hd.d, ⟨a', c'⟩, hd.b⟩ { T with rails := T.rails ++ [x] } (W'.setCell ⟨w.heap.size + 1, 114, none⟩ v') := by
  have hne : ∀ {b : Nat} {cs : Array Value}, W.heap[b]? = some (.cells cs 32 (0, 0)) → some b ≠ (hd.r.val T.rails.length).ownBlock := fun hb e => own_ne h.rails hb (by decide) e.symm
  have hbx := (hg.block _ h.size (hne h.blk)).trans h.blk
  have hrs := (hg.block _ (by have := h.size; omega) (hne h.res)).trans h.res
  have hO : Owns Rl.cells 11 w.heap.size W' 76 v' (T.rails ++ [x]) := Owns.snoc ho
  obtain ⟨⟨a', c'⟩, hs, hr⟩ := Owns.row hO (fun _ => rfl)
  refine ⟨hbx, a', c', by rw [hs, List.length_append]; rfl, ?_⟩
  refine ⟨?_, ?_, ?_, h.ph, h.cf, h.fl, ?_, own_kept (own_kept h.dets hg (fun m hm e => by obtain ⟨ds, hd2⟩ := own_type h.rails _ e; exact own_ne h.dets hd2 (by decide) hm)) (grown_set _ _ _ _) (fun m hm e => by cases e; exact own_ne (own_kept h.dets hg (fun m hm e => by obtain ⟨ds, hd2⟩ := own_type h.rails _ e; exact own_ne h.dets hd2 (by decide) hm)) hbx (by decide) hm), by rw [show Sl.val ⟨a', c'⟩ (T.rails ++ [x]).length = v' from by rw [hs]]; exact own_kept hO (grown_set _ _ _ _) (fun m hm e => by cases e; exact own_ne hO hbx (by decide) hm), own_kept (own_kept h.buses hg (fun m hm e => by obtain ⟨ds, hd2⟩ := own_type h.rails _ e; exact own_ne h.buses hd2 (by decide) hm)) (grown_set _ _ _ _) (fun m hm e => by cases e; exact own_ne (own_kept h.buses hg (fun m hm e => by obtain ⟨ds, hd2⟩ := own_type h.rails _ e; exact own_ne h.buses hd2 (by decide) hm)) hbx (by decide) hm), h.gbk⟩
  · exact (h.bel.grown hg h.bel.size (fun k hk => h.rails.blk k hk)).setCell (p := ⟨w.heap.size + 1, 114, none⟩) (by simp) v'
  · rw [heap_setCell_other _ _ _ _ (by simp)]; exact hrs
  · rw [heap_setCell_same _ _ _ _ _ _ hbx, ← cells_rails hd h.ph h.cf ⟨a', c'⟩ (T.rails ++ [x]), ← hs]; simp
  · exact (h.groups.grown hg (fun m e => by obtain ⟨ds, hd2⟩ := own_type h.rails _ e; exact ⟨ds, _, hd2, by decide, by decide⟩)).grown (grown_set _ _ _ _) (fun m e => by cases e; exact ⟨_, _, hbx, by decide, by decide⟩)
theorem Bx.put_buses {w W W' : World} {hd : Hd} {T : Tab} {v' : Value} (x : Bs) (h : Bx w hd T W) (hg : W.grownBy W' (hd.b.val T.buses.length).ownBlock)
    (ho : W'.ownsRow w.heap.size 79 2 v' (T.buses.length + 1) (T.buses.flatMap Bs.cells ++ x.cells)) :
    (W'.heap[w.heap.size + 1]? = some (.cells (T.cells hd).toArray 32 (0, 0))) ∧ ∃ a' c', v' = .slice a' (T.buses.length + 1) c' ∧ Bx w ⟨hd.g, hd.d, hd.r, ⟨a', c'⟩⟩ { T with buses := T.buses ++ [x] } (W'.setCell ⟨w.heap.size + 1, 115, none⟩ v') := by
  have hne : ∀ {b : Nat} {cs : Array Value}, W.heap[b]? = some (.cells cs 32 (0, 0)) → some b ≠ (hd.b.val T.buses.length).ownBlock := fun hb e => own_ne h.buses hb (by decide) e.symm
  have hbx := (hg.block _ h.size (hne h.blk)).trans h.blk
  have hrs := (hg.block _ (by have := h.size; omega) (hne h.res)).trans h.res
  have hO : Owns Bs.cells 2 w.heap.size W' 79 v' (T.buses ++ [x]) := Owns.snoc ho
  obtain ⟨⟨a', c'⟩, hs, hr⟩ := Owns.row hO (fun _ => rfl)
  refine ⟨hbx, a', c', by rw [hs, List.length_append]; rfl, ?_⟩
  refine ⟨?_, ?_, ?_, h.ph, h.cf, h.fl, ?_, own_kept (own_kept h.dets hg (fun m hm e => by obtain ⟨ds, hd2⟩ := own_type h.buses _ e; exact own_ne h.dets hd2 (by decide) hm)) (grown_set _ _ _ _) (fun m hm e => by cases e; exact own_ne (own_kept h.dets hg (fun m hm e => by obtain ⟨ds, hd2⟩ := own_type h.buses _ e; exact own_ne h.dets hd2 (by decide) hm)) hbx (by decide) hm), own_kept (own_kept h.rails hg (fun m hm e => by obtain ⟨ds, hd2⟩ := own_type h.buses _ e; exact own_ne h.rails hd2 (by decide) hm)) (grown_set _ _ _ _) (fun m hm e => by cases e; exact own_ne (own_kept h.rails hg (fun m hm e => by obtain ⟨ds, hd2⟩ := own_type h.buses _ e; exact own_ne h.rails hd2 (by decide) hm)) hbx (by decide) hm), by rw [show Sl.val ⟨a', c'⟩ (T.buses ++ [x]).length = v' from by rw [hs]]; exact own_kept hO (grown_set _ _ _ _) (fun m hm e => by cases e; exact own_ne hO hbx (by decide) hm), h.gbk⟩
  · exact (h.bel.grown hg h.bel.size (fun k hk => h.buses.blk k hk)).setCell (p := ⟨w.heap.size + 1, 115, none⟩) (by simp) v'
  · rw [heap_setCell_other _ _ _ _ (by simp)]; exact hrs
  · rw [heap_setCell_same _ _ _ _ _ _ hbx, ← cells_buses hd h.ph h.cf ⟨a', c'⟩ (T.buses ++ [x]), ← hs]; simp
  · exact (h.groups.grown hg (fun m e => by obtain ⟨ds, hd2⟩ := own_type h.buses _ e; exact ⟨ds, _, hd2, by decide, by decide⟩)).grown (grown_set _ _ _ _) (fun m e => by cases e; exact ⟨_, _, hbx, by decide, by decide⟩)
end GenT
namespace GenT
open Go.ChangeShapes Go.WideShapes Go.ChangeAt Go.RowKit
open Tab Gath GenG Clone PlaceM CodeAt
open RefS (num num_range from_any)
theorem cset_same {T U : Tab} (h : T.groups = U.groups) (L : List Int) (p q : Nat) (C : List Int) : cset L T p q C = cset L U p q C := by
  unfold cset; rw [beside_same h]
theorem crow_same {T U : Tab} (h : T.groups = U.groups) (L : List Int) (p : Nat) (C : List Int) : ∀ q, crow L T p C q = crow L U p C q
  | 0 => rfl
  | q + 1 => by rw [crow, crow, crow_same h L p C q, cset_same h]
theorem call_same {T U : Tab} (h : T.groups = U.groups) (L : List Int) (C : List Int) : ∀ p, call L T C p = call L U C p
  | 0 => rfl
  | p + 1 => by rw [call, call, call_same h L C p, crow_same h]
theorem genN_range (L : List Int) : genN L ≤ 8 := up_le L (genG L) (genG_range L).2 _ (Nat.le_refl _)
theorem upTo_pos (L : List Int) (G : Nat) (hG : G ≤ 3) : ∀ g, g < G → (upTo L G g).2 < (upTo L G (g + 1)).2 := fun g hg => by
  show (upTo L G g).2 < (upTo L G g).2 + n0 L G g (upTo L G g).2 + n1 L G g (upTo L G g).2
  have h0 : ∀ g, g < G → (upTo L G g).2 ≤ 4 * g ∧ (upTo L G g).2 ≤ lim G g - 1 := by
    intro g
    induction g with
    | zero => intro h; exact ⟨Nat.zero_le _, Nat.zero_le _⟩
    | succ k ih =>
      intro h
      have := ih (by omega)
      show (upTo L G k).2 + n0 L G k (upTo L G k).2 + n1 L G k (upTo L G k).2 ≤ 4 * (k + 1) ∧ (upTo L G k).2 + n0 L G k (upTo L G k).2 + n1 L G k (upTo L G k).2 ≤ lim G (k + 1) - 1
      have a := want0_le L k
      have b := want1_le L k (n0 L G k (upTo L G k).2)
      unfold n1
      have : n0 L G k (upTo L G k).2 ≤ want0 L k ∧ n0 L G k (upTo L G k).2 ≤ lim G k - (upTo L G k).2 := by unfold n0; omega
      unfold lim at *
      omega
  have h1 := (h0 g hg).2
  have hl : 1 ≤ lim G g - (upTo L G g).2 := by unfold lim at *; omega
  by_cases e : n0 L G g (upTo L G g).2 = 0
  · have hw : 1 ≤ want1 L g (n0 L G g (upTo L G g).2) := by
      rw [e]; unfold want1
      have := num_range L (2 + 2 * g) 3 (by omega)
      split <;> omega
    have : 1 ≤ n1 L G g (upTo L G g).2 := by unfold n1; rw [e] at hw ⊢; omega
    omega
  · omega
theorem genN_pos (L : List Int) : 1 ≤ genN L := by
  obtain ⟨h1, h3⟩ := genG_range L
  have := upTo_pos L (genG L) h3 (genG L - 1) (by omega)
  rw [show genG L - 1 + 1 = genG L by omega] at this
  show 1 ≤ (upTo L (genG L) (genG L)).2
  omega
theorem genGs_len (L : List Int) : (genGs L).length = genG L := up_len L _ _
theorem up_few (L : List Int) (G : Nat) : ∀ g, ∀ x ∈ (upTo L G g).1, x.1.length ≤ 2 ∧ x.2.length ≤ 2
  | 0 => fun x h => by simp [upTo] at h
  | g + 1 => fun x h => by
    rw [upTo] at h
    rcases List.mem_append.1 h with h | h
    · exact up_few L G g x h
    · obtain rfl : x = grpD L G g (upTo L G g).2 := by simpa using h
      have a := want0_le L g
      have b := want1_le L g (n0 L G g (upTo L G g).2)
      constructor
      · show (seg _ _).length ≤ 2
        rw [seg_len]; unfold n0; omega
      · show (seg _ _).length ≤ 2
        rw [seg_len]; unfold n1; omega
theorem tab1_few (L : List Int) : Few (tab1 L) := ⟨by show (genGs L).length ≤ 1000; rw [genGs_len]; have := (genG_range L).2; omega, fun x h => by have := up_few L _ _ x h; omega⟩
theorem tabF_groups (L : List Int) : (tabF L).groups = genGs L := by unfold tabF; split <;> rfl
theorem tabF_dets (L : List Int) : { tabF L with dets := [] } = tabF L := by unfold tabF; split <;> rfl
theorem tabD_rails (L : List Int) (k : Nat) : { tabD L k with rails := [] } = tabD L k := by unfold tabD tabF; split <;> rfl
theorem tabR_buses (L : List Int) (k : Nat) : { tabR L k with buses := [] } = tabR L k := by unfold tabR tabD tabF; split <;> rfl
theorem tabS_window (L : List Int) : { tabS L with window := 0 } = tabS L := by unfold tabS tabB tabR tabD tabF; split <;> rfl
theorem tabS_rails (L : List Int) : (tabS L).rails.length = (num L 176 4 % 3).toNat := down_len _ _ _
theorem tabS_groups (L : List Int) : (tabS L).groups = genGs L := tabF_groups L
theorem tabS_few (L : List Int) : Few (tabS L) := ⟨by rw [tabS_groups]; exact (tab1_few L).groups, by rw [tabS_groups]; exact (tab1_few L).rows⟩
theorem down_same {α : Type} {f g : Nat → α} (h : ∀ i, f i = g i) (k : Nat) : ∀ j, down f k j = down g k j
  | 0 => rfl
  | j + 1 => by rw [down, down, down_same h k j, h]
/-- The first of six numbers are laid. -/
def scal (T : Tab) (l : List Int) : Tab := { T with extend := l.getD 0 T.extend, budget := l.getD 1 T.budget, start := l.getD 2 T.start, revert := l.getD 3 T.revert, least := l.getD 4 T.least, share := l.getD 5 T.share }
theorem scal_set {w W : World} {hd : Hd} {T : Tab} {l : List Int} (h : Bx w hd (scal T l) W) (x : Int) (i k : Nat) (hk : l.length = k) (hi : (k = 0 ∧ i = 116) ∨ (k = 1 ∧ i = 117) ∨ (k = 2 ∧ i = 118) ∨ (k = 3 ∧ i = 119) ∨ (k = 4 ∧ i = 120) ∨ (k = 5 ∧ i = 130)) :
    (∃ v, W.cell? ⟨w.heap.size + 1, i, none⟩ = some (I v)) ∧ W.frozen? ⟨w.heap.size + 1, i, none⟩ = false ∧ Bx w hd (scal T (l ++ [x])) (W.setCell ⟨w.heap.size + 1, i, none⟩ (I x)) := by
  refine ⟨?_, h.frozen i, ?_⟩
  · rw [h.cell, ← List.getElem?_toArray]
    rcases hi with ⟨rfl, rfl⟩ | ⟨rfl, rfl⟩ | ⟨rfl, rfl⟩ | ⟨rfl, rfl⟩ | ⟨rfl, rfl⟩ | ⟨rfl, rfl⟩
    · exact ⟨_, (cells_ok h.tab).extend⟩
    · exact ⟨_, (cells_ok h.tab).budget⟩
    · exact ⟨_, (cells_ok h.tab).start⟩
    · exact ⟨_, (cells_ok h.tab).revert⟩
    · exact ⟨_, (cells_ok h.tab).least⟩
    · exact ⟨_, (cells_ok h.tab).share⟩
  · rcases hi with ⟨rfl, rfl⟩ | ⟨rfl, rfl⟩ | ⟨rfl, rfl⟩ | ⟨rfl, rfl⟩ | ⟨rfl, rfl⟩ | ⟨rfl, rfl⟩
    · match l, hk with
      | [], _ => exact h.set 116 (I x) (cells_extend hd h.ph h.cf x) h.ph h.cf h.fl rfl rfl rfl rfl
    · match l, hk with
      | [_], _ => exact h.set 117 (I x) (cells_budget hd h.ph h.cf x) h.ph h.cf h.fl rfl rfl rfl rfl
    · match l, hk with
      | [_, _], _ => exact h.set 118 (I x) (cells_start hd h.ph h.cf x) h.ph h.cf h.fl rfl rfl rfl rfl
    · match l, hk with
      | [_, _, _], _ => exact h.set 119 (I x) (cells_revert hd h.ph h.cf x) h.ph h.cf h.fl rfl rfl rfl rfl
    · match l, hk with
      | [_, _, _, _], _ => exact h.set 120 (I x) (cells_least hd h.ph h.cf x) h.ph h.cf h.fl rfl rfl rfl rfl
    · match l, hk with
      | [_, _, _, _, _], _ => exact h.set 130 (I x) (cells_share hd h.ph h.cf h.fl x) h.ph h.cf h.fl rfl rfl rfl rfl
theorem infoTz : (Try.prog.info? 32).map (fun i => (i.zero, i.size)) = some (some (.agg (zTab.cells zHd).toArray), 131) := by kernel_rfl
/-- Behind rows: the box. -/
theorem Bx.first {w W : World} {L : List Int} {ga : Option Addr} {gc : Nat} {gs : List Gr} {W0 : World} (hW : Below w.heap.size w W0) (hs : W0.heap.size = w.heap.size + 2) (h0 : W0.heap[w.heap.size]? = some (.cells (zTab.cells zHd).toArray 32 (0, 0)))
    (hd : gs.map Gr.data = genGs L) (h : GS W0 (w.heap.size + 1) (zTab.cells zHd) ga gc (genG L) gs W) : Bx w ⟨⟨ga, gc⟩, ⟨none, 0⟩, ⟨none, 0⟩, ⟨none, 0⟩⟩ (tab1 L) W := by
  refine ⟨⟨h.gb.os.trans hW.os, h.gb.tape.trans hW.tape, h.gb.output.trans hW.output, by have := h.gb.size; omega, fun j hj => (h.gb.block j (by omega) (fun e => by simp at e; omega)).trans (hW.block j hj)⟩, (h.gb.block _ (by omega) (fun e => by simp at e)).trans h0, ?_, rfl, rfl, rfl, ?_, Owns.nil, Owns.nil, Owns.nil, ?_⟩
  · rw [h.tbk]
    have := cells_groups (T := zTab) zHd rfl ⟨ga, gc⟩ (genGs L)
    rw [genGs_len] at this
    rw [show (Value.slice ga (genG L) gc) = (Sl.val ⟨ga, gc⟩ (genG L)) from rfl, this]
    rfl
  · have hO : Owns Gr.cells 2 W0.heap.size W 92 (Sl.val ⟨ga, gc⟩ gs.length) gs := by rw [h.len]; exact h.own
    refine ⟨gs, hd, own_is (fun _ => rfl) hO, fun x hx => ?_, h.rows⟩
    obtain rfl : ga = some x := hx
    rcases hO.2 with ⟨e, _⟩ | ⟨g, cp, cur, e, h1, h2, _⟩
    · simp [Sl.val] at e
    · simp [Sl.val] at e
      obtain ⟨rfl, _⟩ := e
      exact ⟨cur, h2⟩
  · have hO : Owns Gr.cells 2 W0.heap.size W 92 (Sl.val ⟨ga, gc⟩ gs.length) gs := by rw [h.len]; exact h.own
    intro x hx
    obtain rfl : ga = some x := hx
    rcases hO.2 with ⟨e, _⟩ | ⟨g, cp, cur, e, h1, h2, _⟩
    · simp [Sl.val] at e
    · simp [Sl.val] at e
      obtain ⟨rfl, _⟩ := e
      exact ⟨g, rfl, by omega⟩
/-- The lists of a table lie in blocks of their own, laid since B. -/
structure Own3 (B : Nat) (W : World) (hd : Hd) (T : Tab) : Prop where
  groups : GrT W hd.g T.groups
  dets : Owns Det.cells 7 B W 73 (hd.d.val T.dets.length) T.dets
  rails : Owns Rl.cells 11 B W 76 (hd.r.val T.rails.length) T.rails
  buses : Owns Bs.cells 2 B W 79 (hd.b.val T.buses.length) T.buses
  gbk : ∀ x, hd.g.a = some x → ∃ g, x = ⟨g, 0, none⟩ ∧ B ≤ g
theorem Bx.store_own {w W : World} {hd : Hd} {T : Tab} (h : Bx w hd T W) : ∃ W', Sem.run Try.prog (storeCells ⟨w.heap.size, 0, none⟩ (T.cells hd)) W = .ok () W' ∧ W'.heap[w.heap.size]? = some (.cells (T.cells hd).toArray 32 (0, 0)) ∧ IsTab W' hd T ∧ Own3 w.heap.size W' hd T ∧ Below w.heap.size w W' := by
  have hl := cells_cut hd h.ph h.cf h.fl
  have hr := run_storeCells_at Try.prog w.heap.size 0 32 (T.cells hd) 0 (zTab.cells zHd).toArray W h.res (by simp [hl]; exact Nat.le_refl 131) (fun v hv => (Array.all_eq_true_iff_forall_mem.1 (cells_ok h.tab).one) v (by simpa using hv))
  simp only [Nat.add_zero] at hr
  have e : ((zTab.cells zHd).toArray.toList.take 0 ++ T.cells hd ++ (zTab.cells zHd).toArray.toList.drop (0 + (T.cells hd).length)).toArray = (T.cells hd).toArray := by
    rw [List.drop_of_length_le (by rw [hl]; exact Nat.le_refl 131)]; simp
  rw [e] at hr
  have hg := setRow_grown W w.heap.size (T.cells hd).toArray (by have := h.size; omega)
  have k1 : Owns Det.cells 7 w.heap.size (W.setRow w.heap.size (T.cells hd).toArray) 73 (hd.d.val T.dets.length) T.dets := own_kept h.dets hg (fun m hm e => by cases e; exact own_ne h.dets h.res (by decide) hm)
  have k2 : Owns Rl.cells 11 w.heap.size (W.setRow w.heap.size (T.cells hd).toArray) 76 (hd.r.val T.rails.length) T.rails := own_kept h.rails hg (fun m hm e => by cases e; exact own_ne h.rails h.res (by decide) hm)
  have k3 : Owns Bs.cells 2 w.heap.size (W.setRow w.heap.size (T.cells hd).toArray) 79 (hd.b.val T.buses.length) T.buses := own_kept h.buses hg (fun m hm e => by cases e; exact own_ne h.buses h.res (by decide) hm)
  have kg : GrT (W.setRow w.heap.size (T.cells hd).toArray) hd.g T.groups := h.groups.grown hg (fun m e => by cases e; exact ⟨_, _, h.res, by decide, by decide⟩)
  refine ⟨_, hr, setRow_heap _ _ _ _ _ _ h.res, ?_, ?_, h.bel.grown hg h.bel.size (fun k hk => by cases hk; omega)⟩
  · exact ⟨h.ph, h.cf, h.fl, kg.lie, own_is (fun _ => rfl) k1, own_is (fun _ => rfl) k2, own_is (fun _ => rfl) k3⟩
  · exact ⟨kg, k1, k2, k3, h.gbk⟩
theorem Bx.store_res {w W : World} {hd : Hd} {T : Tab} (h : Bx w hd T W) : ∃ W', Sem.run Try.prog (storeCells ⟨w.heap.size, 0, none⟩ (T.cells hd)) W = .ok () W' ∧ W'.heap[w.heap.size]? = some (.cells (T.cells hd).toArray 32 (0, 0)) ∧ IsTab W' hd T ∧ Below w.heap.size w W' := by
  obtain ⟨W', h1, h2, h3, _, h4⟩ := h.store_own
  exact ⟨W', h1, h2, h3, h4⟩
end GenT
namespace CodeAt
open Go
def findS (id : Nat) : Code → Option Code
  | .seq a b => if firstR a = some id then some (.seq a b) else (findS id a).or (findS id b)
  | .cond _ a b => (findS id a).or (findS id b)
  | .block _ b => findS id b
  | .loop b => findS id b
  | .scope b => findS id b
  | _ => none
/-- What follows in a function from region number id on. -/
def sq (id : Nat) (f : Func) : Code := ((f.body.bind (findS id)).getD .skip)
end CodeAt
namespace GenT
end GenT
namespace GenT
open Go Tab GenG PlaceM OnS Clone
open RefS (num num_range)
theorem seg_append (p a b : Nat) : seg p a ++ seg (p + a) b = seg p (a + b) := by
  induction b with
  | zero => simp [seg]
  | succ b ih => rw [seg_succ, ← List.append_assoc, ih, ← Nat.add_assoc, seg_succ, Nat.add_assoc]
theorem mem_seg {p m : Nat} {x : Int} : x ∈ seg p m ↔ (p : Int) ≤ x ∧ x < p + m := by
  unfold seg
  rw [List.mem_map]
  constructor
  · rintro ⟨i, hi, rfl⟩
    have := List.mem_range.1 hi
    omega
  · rintro ⟨h1, h2⟩
    exact ⟨(x - p).toNat, List.mem_range.2 (by omega), by omega⟩
theorem row_seg (g k : Nat) : ∀ (m i p : Nat), p + m ≤ 8 → (rowS g k i (seg p m)).map Spt.p = seg p m
  | 0, i, p, h => rfl
  | m + 1, i, p, h => by
    have e : seg p (m + 1) = (p : Int) :: seg (p + 1) m := by
      have := seg_append p 1 m
      rw [Nat.add_comm 1 m] at this
      rw [← this]
      simp [seg]
    rw [e, rowS, List.map_append, row_seg g k m (i + 1) (p + 1) (by omega), one, if_pos ⟨by omega, by omega⟩]
    rfl
theorem up_spots (L : List Int) (G : Nat) (hG : G ≤ 3) : ∀ g, g ≤ G → (allS 0 (upTo L G g).1).map Spt.p = seg 0 (upTo L G g).2
  | 0, _ => rfl
  | g + 1, h => by
    have h8 := up_le L G hG (g + 1) h
    have e2 : (upTo L G (g + 1)).2 = (upTo L G g).2 + n0 L G g (upTo L G g).2 + n1 L G g (upTo L G g).2 := rfl
    have e1 : (upTo L G (g + 1)).1 = (upTo L G g).1 ++ [grpD L G g (upTo L G g).2] := rfl
    rw [e1, allS_append, List.map_append, up_spots L G hG g (by omega)]
    rw [e2] at h8 ⊢
    simp only [allS, List.append_nil, grpS, grpD, List.map_append]
    rw [row_seg _ _ _ _ _ (by omega), row_seg _ _ _ _ _ (by omega), ← List.append_assoc]
    rw [show seg 0 (upTo L G g).2 ++ seg (upTo L G g).2 (n0 L G g (upTo L G g).2) = seg 0 ((upTo L G g).2 + n0 L G g (upTo L G g).2) from by have := seg_append 0 (upTo L G g).2 (n0 L G g (upTo L G g).2); rwa [Nat.zero_add] at this]
    have := seg_append 0 ((upTo L G g).2 + n0 L G g (upTo L G g).2) (n1 L G g (upTo L G g).2)
    rwa [Nat.zero_add] at this
theorem genTab_groups (L : List Int) : (genTab L).groups = genGs L := by
  unfold genTab; split <;> exact tabF_groups L
theorem genTab_phases (L : List Int) : (genTab L).phases = upd (fun p => GenP.genPh L (10 + 12 * p)) zPh (genN L) := by
  have h : (tabF L).phases = upd (fun p => GenP.genPh L (10 + 12 * p)) zPh (genN L) := by unfold tabF; split <;> rfl
  unfold genTab; split <;> exact h
theorem genTab_few (L : List Int) : Few (genTab L) := ⟨by rw [genTab_groups]; exact (tab1_few L).groups, by rw [genTab_groups]; exact (tab1_few L).rows⟩
theorem gen_spots (L : List Int) : (spots (genTab L)).map Spt.p = seg 0 (genN L) := by
  unfold spots; rw [genTab_groups]; exact up_spots L (genG L) (genG_range L).2 _ (Nat.le_refl _)
theorem gen_nodup (L : List Int) : ((spots (genTab L)).map Spt.p).Nodup := by
  rw [gen_spots]
  unfold seg
  unfold List.Nodup
  rw [List.pairwise_map]
  exact List.nodup_range.imp (fun h e => h (by omega))
theorem where_isSome (T : Tab) (p : Int) : (where_ T p).isSome = decide (p ∈ (spots T).map Spt.p) := by
  unfold where_ find
  cases h : List.find? (fun x => x.p == p) (spots T) with
  | none =>
    rw [List.find?_eq_none] at h
    symm; simp only [Option.isSome_none, decide_eq_false_iff_not, List.mem_map]
    rintro ⟨x, hx, rfl⟩
    simpa using h x hx
  | some x =>
    have hx := List.mem_of_find?_eq_some h
    have hp := List.find?_some h
    symm; simp only [Option.isSome_some, decide_eq_true_eq, List.mem_map]
    exact ⟨x, hx, by simpa using hp⟩
theorem gen_on (L : List Int) : onL (genTab L) = seg 0 (genN L) := by
  unfold onL
  rw [genTab_phases]
  have h8 := genN_range L
  generalize genN L = n at *
  match n, h8 with
  | 0, _ | 1, _ | 2, _ | 3, _ | 4, _ | 5, _ | 6, _ | 7, _ | 8, _ => rfl
theorem gen_has_on (L : List Int) (p : Int) : SetM.has (onS (genTab L) : Nat) p = (where_ (genTab L) p).isSome := by
  rw [where_isSome, gen_spots, OnS.onS, gen_on]
  have h8 := genN_range L
  rw [SetM.has_of _ (SetM.of_lt _)]
  by_cases h : 0 ≤ p
  · obtain ⟨k, rfl⟩ := Int.eq_ofNat_of_zero_le h
    rw [decide_eq_true h, Bool.true_and, Int.toNat_natCast, SetM.of_test]
    have : ((k : Int) ∈ seg 0 (genN L)) ↔ ((k : Int) ∈ seg 0 (genN L) ∧ k < 8) := ⟨fun h => ⟨h, by have := mem_seg.1 h; omega⟩, fun h => h.1⟩
    simp only [decide_eq_decide]
    exact this.symm
  · rw [decide_eq_false h, Bool.false_and]
    symm
    rw [decide_eq_false_iff_not, mem_seg]
    omega
theorem beside_symm (T : Tab) (p q : Int) : beside T p q = beside T q p := by
  unfold beside
  cases where_ T p with
  | none => cases where_ T q <;> rfl
  | some a =>
    cases where_ T q with
    | none => rfl
    | some b =>
      show (a.g == b.g && a.k != b.k) = (b.g == a.g && b.k != a.k)
      rw [Bool.beq_comm, bne_comm]
end GenT
namespace GenQ
open Go.ChangeShapes Go.WideShapes Go.ChangeAt Go.RowKit
open Tab
open Clear (phAt)
theorem gen_ph (L : List Int) (k : Nat) (hk : k < 8) : phAt (GenT.genTab L) k = if k < GenG.genN L then GenP.genPh L (10 + 12 * (k : Int)) else Clone.zPh := by
  unfold Clear.phAt
  rw [GenT.genTab_phases]
  unfold GenT.upd
  rw [Int.toNat_natCast, List.getD_eq_getElem?_getD, List.getElem?_map, List.getElem?_range hk]
  rfl
theorem ph_at {T : Tab} (h8 : T.phases.length = 8) {k : Nat} (hk : k < 8) : T.phases[k]? = some (phAt T k) := by
  unfold Clear.phAt
  rw [Int.toNat_natCast, List.getD_eq_getElem?_getD, List.getElem?_eq_getElem (by omega)]
  rfl
/-- A phase's cells among those of its table. -/
theorem cells_at {T : Tab} {hd : Hd} {w : World} (ht : IsTab w hd T) {k : Nat} (hk : k < 8) {j : Nat} {v : Value} (hj : (phAt T k).cells[j]? = some v) : (T.cells hd)[k * 13 + j]? = some v := by
  have h1 := Phx.flat_take (ph_at ht.ph hk)
  have h2 := (cells_ok ht).phases
  have hj13 : j < 13 := by have := (List.getElem?_eq_some_iff.1 hj).1; simpa [Ph.cells] using this
  rw [← h1, List.getElem?_take, if_pos hj13, List.getElem?_drop, ← h2, List.getElem?_take, if_pos (by omega)] at hj
  exact hj
end GenQ
namespace Rg
open Go Go.ChangeShapes Go.WideShapes Go.ChangeAt Go.RowKit
open Tab Flat TabArg QL Ru PlanM
open ChkM (cfAt)
open Clear (phAt)
open PlaceM (where_ spots Spt)
open May (infoP)
theorem lat_eq (T : Tab) (r : Rg) (p q : Int) {ok : Bool} {g k i own : Int} (e1 : PlanW.Tup (where_ T q) = .tuple #[I g, I k, I i, .bool ok]) (e2 : own = PlanW.wK (where_ T p)) : latS T r p q = (ok && (decide (g = r.g) && (decide (k ≠ own) && decide ((if k = 0 then r.a0 else r.a1) < i)))) := by
  subst e2
  unfold latS
  simp only [PlanW.Tup, Value.tuple.injEq, List.toArray, Array.mk.injEq, List.cons.injEq, Value.int.injEq, Value.bool.injEq, true_and, and_true] at e1
  obtain ⟨e1, e2, e3, e4⟩ := e1
  subst e1 e2 e3 e4
  cases hq : where_ T q with
  | none => rfl
  | some y =>
    have hm : PlanW.wK (where_ T p) = (match where_ T p with | some x => (x.k : Int) | none => 0) := by cases where_ T p <;> rfl
    rw [hm]
    have hr : r.at y.k = if ((y.k : Nat) : Int) = 0 then r.a0 else r.a1 := by
      match y.k with
      | 0 => rfl
      | j + 1 => rw [if_neg (by omega)]; rfl
    simp only [PlanW.wG, PlanW.wK, PlanW.wI, Option.isSome, Bool.true_and]
    rw [hr]
    rfl
theorem find_mem0 {p : Int} {x : Spt} : ∀ {l : List Spt}, PlaceM.find p l = some x → x ∈ l ∧ x.p = p := fun h => by
  unfold PlaceM.find at h
  exact ⟨List.mem_of_find?_eq_some h, by have := List.find?_some h; simpa using this⟩
theorem later_any (T : Tab) (h : Hd) (r : Rg) (p q : Int) (w : World) (ht : IsTab w h T) : Calls Try.prog 67 #[.agg (T.cells h).toArray, .agg r.cells.toArray, .int .i64 p, .int .i64 q] w fun e w' => e = .returned (.bool (latS T r p q)) ∧ Below w.heap.size w w' := by
  obtain ⟨g, k, i, ok, e1⟩ : ∃ g k i ok, PlanW.Tup (where_ T q) = .tuple #[I g, I k, I i, .bool ok] := ⟨_, _, _, _, rfl⟩
  obtain ⟨og, own, oi, oo, e2⟩ : ∃ g k i ok, PlanW.Tup (where_ T p) = .tuple #[I g, I k, I i, .bool ok] := ⟨_, _, _, _, rfl⟩
  have hk : k = 0 ∨ k = 1 := by
    have e3 : k = PlanW.wK (where_ T q) := by
      simp only [PlanW.Tup, Value.tuple.injEq, List.toArray, Array.mk.injEq, List.cons.injEq, Value.int.injEq, Value.bool.injEq, true_and, and_true] at e1
      exact e1.2.1.symm
    rw [e3]
    cases hq : where_ T q with
    | none => exact .inl rfl
    | some y =>
      have := (find_mem0 hq).1
      obtain ⟨h1, _⟩ := mem_ringAt.1 this
      unfold ringAt at h1
      show ((y.k : Nat) : Int) = 0 ∨ ((y.k : Nat) : Int) = 1
      by_cases h0 : ((y.k : Nat) : Int) = 0
      · exact .inl h0
      · rw [if_neg h0] at h1
        by_cases h2 : ((y.k : Nat) : Int) = 1
        · exact .inr h2
        · rw [if_neg h2] at h1; simp at h1
  have HL := Lib.hid (lat_eq T r p q e1 (own := own) (by simp only [PlanW.Tup, Value.tuple.injEq, List.toArray, Array.mk.injEq, List.cons.injEq, Value.int.injEq, Value.bool.injEq, true_and, and_true] at e2; exact e2.2.1.symm))
  have WP : Hid (∀ W, Below w.heap.size w W → Calls Try.prog 31 #[.agg (T.cells h).toArray, .int .i64 p] W fun e w' => e = .returned (.tuple #[I og, I own, I oi, .bool oo]) ∧ Below W.heap.size W w') := Lib.hid (fun W hb => by rw [← e2]; exact PlanW.pwhere_any T h p W (ht.below hb))
  have WQ : Hid (∀ W, Below w.heap.size w W → Calls Try.prog 31 #[.agg (T.cells h).toArray, .int .i64 q] W fun e w' => e = .returned (.tuple #[I g, I k, I i, .bool ok]) ∧ Below W.heap.size W w') := Lib.hid (fun W hb => by rw [← e1]; exact PlanW.pwhere_any T h q W (ht.below hb))
  have hsz := (cells_ok ht).size
  have IA : Hid ((Try.prog.info? 32).map (·.size) = some (T.cells h).length) := Lib.hid (by rw [List.size_toArray] at hsz; rw [hsz]; exact PlanW.infoT)
  generalize latS T r p q = res at HL ⊢
  generalize T.cells h = tc at *
  clear ht e1 e2 hsz
  have hn0 := Blk.Bks.nil w
  have hn1 := hn0.alloc tc.toArray 32
  have hn2 := hn1.alloc r.cells.toArray 36
  rw [show (w.alloc (.cells tc.toArray 32)).heap.size = w.heap.size + 1 by simp] at hn2
  clear hn0
  clear hn1
  go_enter Try.func67, Try.ntmps67
  go_upto_region 1 with fail
  generalize World.alloc (World.alloc w _) _ = v at hn2 ⊢
  generalize hg1 : w.heap.size + 1 = gr at hn2 ⊢
  generalize hg0 : w.heap.size = gt at hn2 ⊢
  clear hg0 hg1
  have H0 := Lib.hid hn2
  clear hn2
  go_wp2_with (refine Row.wpList_load_g 32 _ rfl (by first | rfl | (go_simp; done) | fail) ⟨gt, 0, none⟩ rfl tc _ (by have := H0.out.lies 1 rfl; simpa using this) Try.underlying32 rfl IA.out ?_)
  refine (WP.out _ H0.out.bel).mono ?_
  rintro e v1 ⟨rfl, bc⟩
  have H1 := Lib.hid (H0.out.step bc)
  clear bc
  go_upto_region 2 with fail
  go_wp2_with (refine Row.wpList_load_g 32 _ rfl (by first | rfl | (go_simp; done) | fail) ⟨gt, 0, none⟩ rfl tc _ (by have := H1.out.lies 1 rfl; simpa using this) Try.underlying32 rfl IA.out ?_)
  refine (WQ.out _ H1.out.bel).mono ?_
  rintro e v2 ⟨rfl, bc⟩
  have H2 := Lib.hid (H1.out.step bc)
  clear bc
  go_upto_region 3 with fail
  clear H0 H1 WP WQ IA
  have r0 : v2.cell? ⟨gr, 0, none⟩ = some (I r.g) := H2.out.cell 0 0 rfl rfl
  have r1 : v2.cell? ⟨gr, 1, none⟩ = some (I r.a0) := H2.out.cell 0 1 rfl rfl
  have r2 : v2.cell? ⟨gr, 2, none⟩ = some (I r.a1) := H2.out.cell 0 2 rfl rfl
  obtain ⟨rg, a0, a1, cr⟩ := r
  dsimp only at r0 r1 r2 HL
  cases ok
  · have HR : Hid (res = false) := Lib.hid (by rw [HL.out]; rfl)
    clear HL
    go_wp2
    go_ret
    exact ⟨ret_bool HR.out.symm, H2.out.bel⟩
  by_cases h1 : g = rg
  rotate_left
  · have HR : Hid (res = false) := Lib.hid (by rw [HL.out, decide_eq_false h1]; rfl)
    clear HL
    go_wp2
    go_ret
    exact ⟨ret_bool HR.out.symm, H2.out.bel⟩
  subst h1
  by_cases h2 : k = own
  · have HR : Hid (res = false) := Lib.hid (by rw [HL.out, show decide (k ≠ own) = false from decide_eq_false (fun e => e h2)]; simp)
    clear HL
    go_wp2
    go_ret
    exact ⟨ret_bool HR.out.symm, H2.out.bel⟩
  rcases hk with rfl | rfl
  · have h2b : ((0 : Int) != own) = true := bne_iff_ne.2 h2
    by_cases h3 : a0 < i
    · have HR : Hid (res = true) := Lib.hid (by rw [HL.out, if_pos rfl]; simp [h2, h3])
      clear HL
      go_wp2
      go_ret
      exact ⟨ret_bool HR.out.symm, H2.out.bel⟩
    · have HR : Hid (res = false) := Lib.hid (by rw [HL.out, if_pos rfl]; simp [h2, h3])
      clear HL
      go_wp2
      go_ret
      exact ⟨ret_bool HR.out.symm, H2.out.bel⟩
  · have h2b : ((1 : Int) != own) = true := bne_iff_ne.2 h2
    by_cases h3 : a1 < i
    · have HR : Hid (res = true) := Lib.hid (by rw [HL.out, if_neg (by decide)]; simp [h2, h3])
      clear HL
      go_wp2
      go_ret
      exact ⟨ret_bool HR.out.symm, H2.out.bel⟩
    · have HR : Hid (res = false) := Lib.hid (by rw [HL.out, if_neg (by decide)]; simp [h2, h3])
      clear HL
      go_wp2
      go_ret
      exact ⟨ret_bool HR.out.symm, H2.out.bel⟩
theorem oth_any (tc : List Value) (r : Rg) (rc : List Value) (want gr bu : Int) (h1 : tc.length = 131) (h2 : rc.length = 96) (w : World) : Calls Try.prog 46 #[.agg (kC tc r rc want gr bu).toArray] w fun e w' => e = .returned (.bool (othS want gr)) ∧ Below w.heap.size w w' := by
  have HR : Hid (othS want gr = decide (0 ≤ SetM.first (bits .andNot .i64 want gr))) := Lib.hid rfl
  generalize othS want gr = res at HR ⊢
  have L1 := Lib.hid h1
  have L2 := Lib.hid h2
  have hn0 := Blk.Bks.nil w
  have hn1 := hn0.alloc (kC tc r rc want gr bu).toArray 96
  clear hn0
  go_enter Try.func46, Try.ntmps46
  go_upto_region 1 with fail
  generalize World.alloc w _ = v at hn1 ⊢
  generalize hg0 : w.heap.size = gk at hn1 ⊢
  clear hg0
  have H0 := Lib.hid hn1
  clear hn1
  have KF : Hid (∀ W, Below v.heap.size v W → KB W gk tc r rc want gr bu) := Lib.hid (fun W hb => kb (H0.out.step hb) 0 L1.out L2.out rfl)
  clear h1 h2
  have k0 := (KF.out v (Below.refl _ _)).w
  have k1 := (KF.out v (Below.refl _ _)).gr
  go_wp2_with fail
  refine (SetE.first_in _ _).mono ?_
  rintro e w9 ⟨rfl, b9⟩
  generalize SetM.first (bits .andNot .i64 want gr) = n at HR ⊢
  clear k0 k1
  by_cases hn : 0 ≤ n
  · have HS : Hid (res = true) := Lib.hid (by rw [HR.out, decide_eq_true hn])
    go_wp2
    go_ret
    exact ⟨ret_bool HS.out.symm, (H0.out.step b9).bel⟩
  · have HS : Hid (res = false) := Lib.hid (by rw [HR.out, decide_eq_false hn])
    have d0 : decide (0 ≤ n) = false := decide_eq_false hn
    go_wp2
    go_ret
    exact ⟨ret_bool HS.out.symm, (H0.out.step b9).bel⟩
end Rg
namespace Rg
open Go Go.ChangeShapes Go.WideShapes Go.ChangeAt Go.RowKit
open Tab Flat TabArg QL Ru PlanM
open ChkM (cfAt)
open Clear (phAt)
open PlaceM (where_ spots Spt)
open May (infoP)
theorem tab_cf {T : Tab} {h : Hd} {w : World} (ht : IsTab w h T) {p : Nat} (hp : p < 8) : (T.cells h)[105 + p]? = some (I (cfAt T p)) := by
  have h1 := (cells_ok ht).conflict
  have h2 : (T.conflict.map I)[p]? = some (I (cfAt T p)) := by
    unfold ChkM.cfAt
    rw [List.getElem?_map, List.getElem?_eq_getElem (by rw [ht.cf]; exact hp), Int.toNat_natCast, List.getD_eq_getElem?_getD, List.getElem?_eq_getElem (by rw [ht.cf]; exact hp)]
    rfl
  rw [← h1, List.getElem?_take, if_pos hp, List.getElem?_drop] at h2
  simpa using h2
theorem tab_rv {T : Tab} {h : Hd} {w : World} (ht : IsTab w h T) : (T.cells h)[119]? = some (I T.revert) := by
  have := (cells_ok ht).revert
  rwa [List.getElem?_toArray] at this
/-- a phase's run in a tick -/
theorem KB.run {u : World} {g : Nat} {tc : List Value} {r : Rg} {rs : List Ru} {want gr bu : Int} (h : KB u g tc r (runsC rs) want gr bu) (h8 : rs.length = 8) {p : Nat} (hp : p < 8) {j : Nat} {v : Value} (hj : (ruAt rs p).cells[j]? = some v) : u.cell? ⟨g, 135 + p * 12 + j, none⟩ = some v := by
  rw [Nat.add_assoc]; exact h.cell (runs_at h8 hp hj)
theorem KB.runL {u : World} {g : Nat} {tc : List Value} {r : Rg} {rs : List Ru} {want gr bu : Int} (h : KB u g tc r (runsC rs) want gr bu) (h8 : rs.length = 8) {p : Nat} (hp : p < 8) : Lies u ⟨g, 135 + p * 12, none⟩ (ruAt rs p).cells := fun j v hj => by
  rw [Addr.add_mid]; exact h.run h8 hp hj
theorem KB.phL {u : World} {g : Nat} {T : Tab} {hd : Hd} {r : Rg} {rc : List Value} {want gr bu : Int} (h : KB u g (T.cells hd) r rc want gr bu) {w : World} (ht : IsTab w hd T) {p : Nat} (hp : p < 8) : Lies u ⟨g, p * 13, none⟩ (phAt T p).cells := fun j v hj => by
  have := h.lt (p * 13 + j) v (GenQ.cells_at ht hp hj)
  rw [Addr.add_mid, Nat.zero_add] at this
  rwa [Addr.add_mid]
theorem rests_any (T : Tab) (hd : Hd) (r : Rg) (rs : List Ru) (want gr bu : Int) (w : World) (ht : IsTab w hd T) (h8 : rs.length = 8) (p : Nat) (hp : p < 8) : Calls Try.prog 65 #[.agg (kC (T.cells hd) r (runsC rs) want gr bu).toArray, .int .i64 p] w fun e w' => e = .returned (.bool (resS T rs want p)) ∧ Below w.heap.size w w' := by
  have h1 : (T.cells hd).length = 131 := by have := (cells_ok ht).size; rwa [List.size_toArray] at this
  have h2 : (runsC rs).length = 96 := by rw [runs_len, h8]
  have LPH : Hid (∀ u gk, KB u gk (T.cells hd) r (runsC rs) want gr bu → Lies u ⟨gk, p * 13, none⟩ (phAt T p).cells) := Lib.hid (fun u gk k => k.phL ht hp)
  have LRU : Hid (∀ u gk, KB u gk (T.cells hd) r (runsC rs) want gr bu → Lies u ⟨gk, 135 + p * 12, none⟩ (ruAt rs p).cells) := Lib.hid (fun u gk k => k.runL h8 hp)
  have HR : Hid (resS T rs want p = ((phAt T p).rest && (decide ((phAt T p).min ≤ (ruAt rs p).tm) && ((ruAt rs p).fs != 1 && ((ruAt rs p).fs != 2 && ((ruAt rs p).lf == 0 && !SetM.has want p)))))) := Lib.hid rfl
  generalize resS T rs want p = res at HR ⊢
  generalize phAt T p = x at LPH HR
  generalize ruAt rs p = y at LRU HR
  generalize T.cells hd = tc at *
  generalize runsC rs = rc at *
  clear ht h8
  have L1 := Lib.hid h1
  have L2 := Lib.hid h2
  have hn0 := Blk.Bks.nil w
  have hn1 := hn0.alloc (kC tc r rc want gr bu).toArray 96
  clear hn0
  go_enter Try.func65, Try.ntmps65
  go_upto_region 1 with fail
  generalize World.alloc w _ = v at hn1 ⊢
  generalize hg0 : w.heap.size = gk at hn1 ⊢
  clear hg0
  have H0 := Lib.hid hn1
  clear hn1
  have KF : Hid (∀ W, Below v.heap.size v W → KB W gk tc r rc want gr bu) := Lib.hid (fun W hb => kb (H0.out.step hb) 0 L1.out L2.out rfl)
  clear h1 h2
  have LX := Lib.hid (LPH.out v gk (KF.out v (Below.refl _ _)))
  have LY := Lib.hid (LRU.out v gk (KF.out v (Below.refl _ _)))
  clear LPH LRU
  have hp8 : (p : Int) < 8 := by omega
  go_cut [5, 6] from 7 (fun t5 t6 wx => ∃ ga gb, t5 = .pointer (some ⟨ga, 0, none⟩) ∧ t6 = .pointer (some ⟨gb, 0, none⟩) ∧ Blk.Bks w [(gb, y.cells.toArray, 45), (ga, x.cells.toArray, 24), (gk, (kC tc r rc want gr bu).toArray, 96)] wx)
  case first =>
    refine wp_region_held (S := fun w' => Below v.heap.size v w') (by kernel_rfl) ?_
    have hS : Below v.heap.size v { v with drawn := v.drawn + 1 } := (Below.refl _ _).drew
    have HA := Lib.hid (H0.out.step hS)
    generalize ({ v with drawn := v.drawn + 1 } : World) = v at hS HA ⊢
    refine Held.take (i := 0) (some 7) rfl (v := ?_) rfl (by kernel_rfl) (by kernel_rfl) (by kernel_rfl) (fun _ _ _ h => h) (Or.inl ⟨by rfl, ?_⟩) hS ?_
    rotate_left
    · intro w' hw'
      go_simp
      try with_reducible rfl
    (try dsimp only [Act.put]); (try simp only [List.setIfInBounds_toArray, List.set_cons_zero, List.set_cons_succ])
    refine Held.take (i := 1) (some 8) rfl (v := ?_) rfl (by kernel_rfl) (by kernel_rfl) (by kernel_rfl) (fun _ _ _ h => h) (Or.inl ⟨by rfl, ?_⟩) hS ?_
    rotate_left
    · intro w' hw'
      go_simp
      try with_reducible rfl
    (try dsimp only [Act.put]); (try simp only [List.setIfInBounds_toArray, List.set_cons_zero, List.set_cons_succ])
    refine Held.take (i := 2) (some 9) rfl (v := ?_) rfl (by kernel_rfl) (by kernel_rfl) (by kernel_rfl) (fun _ _ _ h => h) (Or.inl ⟨by rfl, ?_⟩) hS ?_
    rotate_left
    · intro w' hw'
      go_simp
      try with_reducible rfl
    (try dsimp only [Act.put]); (try simp only [List.setIfInBounds_toArray, List.set_cons_zero, List.set_cons_succ])
    refine Held.take (i := 3) (some 10) rfl (v := ?_) rfl (by kernel_rfl) (by kernel_rfl) (by kernel_rfl) (fun _ _ _ h => h) (Or.inl ⟨by rfl, ?_⟩) hS ?_
    rotate_left
    · intro w' hw'
      go_simp
      try with_reducible rfl
    (try dsimp only [Act.put]); (try simp only [List.setIfInBounds_toArray, List.set_cons_zero, List.set_cons_succ])
    refine Held.take_load (i := 4) (some 11) rfl 24 (.tmp 10) ⟨gk, p * 13, none⟩ x.cells _ rfl rfl (by kernel_rfl) (by kernel_rfl) (by kernel_rfl) (fun _ _ _ h => h) (by rfl) hS rfl (fun w' hw' => LX.out.below hw') Try.underlying24 rfl infoP ?_
    (try dsimp only [Act.put]); (try simp only [List.setIfInBounds_toArray, List.set_cons_zero, List.set_cons_succ])
    refine Held.take (i := 5) (some 12) rfl (v := ?_) rfl (by kernel_rfl) (by kernel_rfl) (by kernel_rfl) (fun _ _ _ h => h) (Or.inl ⟨by rfl, ?_⟩) hS ?_
    rotate_left
    · intro w' hw'
      go_simp
      try with_reducible rfl
    (try dsimp only [Act.put]); (try simp only [List.setIfInBounds_toArray, List.set_cons_zero, List.set_cons_succ])
    refine Held.take (i := 6) (some 13) rfl (v := ?_) rfl (by kernel_rfl) (by kernel_rfl) (by kernel_rfl) (fun _ _ _ h => h) (Or.inl ⟨by rfl, ?_⟩) hS ?_
    rotate_left
    · intro w' hw'
      go_simp
      try with_reducible rfl
    (try dsimp only [Act.put]); (try simp only [List.setIfInBounds_toArray, List.set_cons_zero, List.set_cons_succ])
    refine Held.take (i := 7) (some 14) rfl (v := ?_) rfl (by kernel_rfl) (by kernel_rfl) (by kernel_rfl) (fun _ _ _ h => h) (Or.inl ⟨by rfl, ?_⟩) hS ?_
    rotate_left
    · intro w' hw'
      go_simp
      try with_reducible rfl
    (try dsimp only [Act.put]); (try simp only [List.setIfInBounds_toArray, List.set_cons_zero, List.set_cons_succ])
    refine Held.take_load (i := 8) (some 15) rfl 45 (.tmp 14) ⟨gk, 135 + p * 12, none⟩ y.cells _ rfl rfl (by kernel_rfl) (by kernel_rfl) (by kernel_rfl) (fun _ _ _ h => h) (by rfl) hS rfl (fun w' hw' => LY.out.below hw') Try.underlying45 rfl infoRu ?_
    (try dsimp only [Act.put]); (try simp only [List.setIfInBounds_toArray, List.set_cons_zero, List.set_cons_succ])
    refine wpAnyH_ready (rs := [9, 10]) (by kernel_rfl) (by simp) (AllReadyH.cons rfl (fun K hK => ?_) (AllReadyH.cons rfl (fun K hK => ?_) AllReadyH.nil))
    · go_simp
      have ha := HA.out.alloc #[.bool false, I 0, I 0, I 0, I 0, I 0, I 0, I 0, I 0, I 0, I 0, .bool false, .bool false] 24
      have HGEga := Lib.hid hS.size
      have hq := hS.alloc hS.size (.cells #[.bool false, I 0, I 0, I 0, I 0, I 0, I 0, I 0, I 0, I 0, I 0, .bool false, .bool false] 24)
      clear hS HA
      generalize v.heap.size = ga at ha HGEga ⊢
      generalize World.alloc v _ = va at ha hq ⊢
      have HA := Lib.hid ha
      clear ha
      refine hK.out _ _ hq (fun hS => ?_)
      clear hK K hq
      rename World => v
      (try dsimp only [Act.put]); (try simp only [List.setIfInBounds_toArray, List.set_cons_zero, List.set_cons_succ])
      refine wpAnyH_ready (rs := [10]) (by kernel_rfl) (by simp) (AllReadyH.cons rfl (fun K hK => ?_) AllReadyH.nil)
      go_simp
      have ha := HA.out.alloc #[I 0, I 0, I 0, I 0, I 0, I 0, I 0, .bool false, .bool false, I 0, I 0, I 0] 45
      have HGEgb := Lib.hid hS.size
      have hq := hS.alloc hS.size (.cells #[I 0, I 0, I 0, I 0, I 0, I 0, I 0, .bool false, .bool false, I 0, I 0, I 0] 45)
      clear hS HA
      generalize v.heap.size = gb at ha HGEgb ⊢
      generalize World.alloc v _ = va at ha hq ⊢
      have HA := Lib.hid ha
      clear ha
      refine hK.out _ _ hq (fun hS => ?_)
      clear hK K hq
      rename World => v
      (try dsimp only [Act.put]); (try simp only [List.setIfInBounds_toArray, List.set_cons_zero, List.set_cons_succ])
      refine wpAnyH_ready (rs := [11]) (by kernel_rfl) (by simp) (AllReadyH.cons rfl (fun K hK => ?_) AllReadyH.nil)
      rw [if_pos (by rfl)]
      refine wp_store_row 24 _ _ rfl ga x.cells.toArray rfl rfl 24 _ (HA.out.at 1 rfl) infoP rfl (Ph.one _) ?_
      have hq := below_setRow hS (g := ga) HGEga.out x.cells.toArray
      have hput := HA.out.put 1 rfl x.cells.toArray
      simp only [List.set_cons_succ, List.set_cons_zero] at hput
      clear hS HA
      generalize World.setRow _ ga _ = vs at hput hq ⊢
      have HA := Lib.hid hput
      clear hput
      refine hK.out _ _ hq (fun hS => ?_)
      clear hK K hq
      rename World => v
      (try simp only [List.getElem_toArray, List.getElem_cons_succ, List.getElem_cons_zero])
      (try dsimp only [Act.put]); (try simp only [List.setIfInBounds_toArray, List.set_cons_zero, List.set_cons_succ])
      refine wpAnyH_ready (rs := [12]) (by kernel_rfl) (by simp) (AllReadyH.cons rfl (fun K hK => ?_) AllReadyH.nil)
      rw [if_pos (by rfl)]
      refine wp_store_row 45 _ _ rfl gb y.cells.toArray rfl rfl 45 _ (HA.out.at 0 rfl) infoRu rfl (one_ru _) ?_
      have hq := below_setRow hS (g := gb) HGEgb.out y.cells.toArray
      have hput := HA.out.put 0 rfl y.cells.toArray
      simp only [List.set_cons_succ, List.set_cons_zero] at hput
      clear hS HA
      generalize World.setRow _ gb _ = vs at hput hq ⊢
      have HA := Lib.hid hput
      clear hput
      refine hK.out _ _ hq (fun hS => ?_)
      clear hK K hq
      rename World => v
      (try simp only [List.getElem_toArray, List.getElem_cons_succ, List.getElem_cons_zero])
      (try dsimp only [Act.put]); (try simp only [List.setIfInBounds_toArray, List.set_cons_zero, List.set_cons_succ])
      refine wpAnyH_done (by kernel_rfl) ?_ _
      go_wp2_with fail
      go_meet
      case rel => exact ⟨ga, gb, rfl, rfl, HA.out⟩
    · go_simp
      have ha := HA.out.alloc #[I 0, I 0, I 0, I 0, I 0, I 0, I 0, .bool false, .bool false, I 0, I 0, I 0] 45
      have HGEgb := Lib.hid hS.size
      have hq := hS.alloc hS.size (.cells #[I 0, I 0, I 0, I 0, I 0, I 0, I 0, .bool false, .bool false, I 0, I 0, I 0] 45)
      clear hS HA
      generalize v.heap.size = gb at ha HGEgb ⊢
      generalize World.alloc v _ = va at ha hq ⊢
      have HA := Lib.hid ha
      clear ha
      refine hK.out _ _ hq (fun hS => ?_)
      clear hK K hq
      rename World => v
      (try dsimp only [Act.put]); (try simp only [List.setIfInBounds_toArray, List.set_cons_zero, List.set_cons_succ])
      refine wpAnyH_ready (rs := [9]) (by kernel_rfl) (by simp) (AllReadyH.cons rfl (fun K hK => ?_) AllReadyH.nil)
      go_simp
      have ha := HA.out.alloc #[.bool false, I 0, I 0, I 0, I 0, I 0, I 0, I 0, I 0, I 0, I 0, .bool false, .bool false] 24
      have HGEga := Lib.hid hS.size
      have hq := hS.alloc hS.size (.cells #[.bool false, I 0, I 0, I 0, I 0, I 0, I 0, I 0, I 0, I 0, I 0, .bool false, .bool false] 24)
      clear hS HA
      generalize v.heap.size = ga at ha HGEga ⊢
      generalize World.alloc v _ = va at ha hq ⊢
      have HA := Lib.hid ha
      clear ha
      refine hK.out _ _ hq (fun hS => ?_)
      clear hK K hq
      rename World => v
      (try dsimp only [Act.put]); (try simp only [List.setIfInBounds_toArray, List.set_cons_zero, List.set_cons_succ])
      refine wpAnyH_ready (rs := [11]) (by kernel_rfl) (by simp) (AllReadyH.cons rfl (fun K hK => ?_) AllReadyH.nil)
      rw [if_pos (by rfl)]
      refine wp_store_row 24 _ _ rfl ga x.cells.toArray rfl rfl 24 _ (HA.out.at 0 rfl) infoP rfl (Ph.one _) ?_
      have hq := below_setRow hS (g := ga) HGEga.out x.cells.toArray
      have hput := HA.out.put 0 rfl x.cells.toArray
      simp only [List.set_cons_succ, List.set_cons_zero] at hput
      clear hS HA
      generalize World.setRow _ ga _ = vs at hput hq ⊢
      have HA := Lib.hid hput
      clear hput
      refine hK.out _ _ hq (fun hS => ?_)
      clear hK K hq
      rename World => v
      (try simp only [List.getElem_toArray, List.getElem_cons_succ, List.getElem_cons_zero])
      (try dsimp only [Act.put]); (try simp only [List.setIfInBounds_toArray, List.set_cons_zero, List.set_cons_succ])
      refine wpAnyH_ready (rs := [12]) (by kernel_rfl) (by simp) (AllReadyH.cons rfl (fun K hK => ?_) AllReadyH.nil)
      rw [if_pos (by rfl)]
      refine wp_store_row 45 _ _ rfl gb y.cells.toArray rfl rfl 45 _ (HA.out.at 1 rfl) infoRu rfl (one_ru _) ?_
      have hq := below_setRow hS (g := gb) HGEgb.out y.cells.toArray
      have hput := HA.out.put 1 rfl y.cells.toArray
      simp only [List.set_cons_succ, List.set_cons_zero] at hput
      clear hS HA
      generalize World.setRow _ gb _ = vs at hput hq ⊢
      have HA := Lib.hid hput
      clear hput
      refine hK.out _ _ hq (fun hS => ?_)
      clear hK K hq
      rename World => v
      (try simp only [List.getElem_toArray, List.getElem_cons_succ, List.getElem_cons_zero])
      (try dsimp only [Act.put]); (try simp only [List.setIfInBounds_toArray, List.set_cons_zero, List.set_cons_succ])
      refine wpAnyH_done (by kernel_rfl) ?_ _
      go_wp2_with fail
      go_meet
      case rel => exact ⟨ga, gb, rfl, rfl, HA.out.swap⟩
  case rest =>
  obtain ⟨ga, gb, rfl, rfl, hcut⟩ := hcut
  have H1 := Lib.hid hcut
  clear hcut
  rename World => wx
  have HB := Lib.hid (kb H1.out 2 L1.out L2.out rfl)
  have kw := HB.out.w
  have x12 : wx.cell? ⟨ga, 12, none⟩ = some (.bool x.rest) := H1.out.cell 1 12 rfl rfl
  have x1 : wx.cell? ⟨ga, 1, none⟩ = some (I x.min) := H1.out.cell 1 1 rfl rfl
  have y1 : wx.cell? ⟨gb, 1, none⟩ = some (I y.tm) := H1.out.cell 0 1 rfl rfl
  have y2 : wx.cell? ⟨gb, 2, none⟩ = some (I y.fs) := H1.out.cell 0 2 rfl rfl
  have y4 : wx.cell? ⟨gb, 4, none⟩ = some (I y.lf) := H1.out.cell 0 4 rfl rfl
  obtain ⟨on, min, gap, max, top, step, yellow, red, walk, blinks, recall, lock, rest⟩ := x
  obtain ⟨co, tm, fs, ft, lf, pr, ex, dn, mx, tl, tu, td⟩ := y
  dsimp only at x12 x1 y1 y2 y4 HR
  cases rest
  · have HS : Hid (res = false) := Lib.hid (by rw [HR.out]; rfl)
    clear HR
    go_wp2_with (go_at_call 59; with_reducible refine (Set.has_any _ _ _).mono ?_; rintro e w' ⟨rfl, rfl⟩)
    go_ret
    exact ⟨ret_bool (by first | exact HS.out.symm | (rw [HS.out]; simp)), H1.out.bel⟩
  by_cases h1 : min ≤ tm
  rotate_left
  · have d1 : decide (min ≤ tm) = false := decide_eq_false h1
    have HS : Hid (res = false) := Lib.hid (by rw [HR.out]; rw [d1]; rfl)
    clear HR
    go_wp2_with (go_at_call 59; with_reducible refine (Set.has_any _ _ _).mono ?_; rintro e w' ⟨rfl, rfl⟩)
    go_ret
    exact ⟨ret_bool (by first | exact HS.out.symm | (rw [HS.out]; simp)), H1.out.bel⟩
  by_cases h2 : fs = 1
  · subst h2
    have HS : Hid (res = false) := Lib.hid (by rw [HR.out]; simp)
    clear HR
    go_wp2_with (go_at_call 59; with_reducible refine (Set.has_any _ _ _).mono ?_; rintro e w' ⟨rfl, rfl⟩)
    go_ret
    exact ⟨ret_bool (by first | exact HS.out.symm | (rw [HS.out]; simp)), H1.out.bel⟩
  have e2 : (fs != 1) = true := bne_iff_ne.2 h2
  by_cases h3 : fs = 2
  · subst h3
    have HS : Hid (res = false) := Lib.hid (by rw [HR.out]; simp)
    clear HR
    go_wp2_with (go_at_call 59; with_reducible refine (Set.has_any _ _ _).mono ?_; rintro e w' ⟨rfl, rfl⟩)
    go_ret
    exact ⟨ret_bool (by first | exact HS.out.symm | (rw [HS.out]; simp)), H1.out.bel⟩
  have e3 : (fs != 2) = true := bne_iff_ne.2 h3
  by_cases h4 : lf = 0
  rotate_left
  · have e4 : (lf == 0) = false := beq_eq_false_iff_ne.2 h4
    have HS : Hid (res = false) := Lib.hid (by rw [HR.out]; rw [e4]; simp)
    clear HR
    go_wp2_with (go_at_call 59; with_reducible refine (Set.has_any _ _ _).mono ?_; rintro e w' ⟨rfl, rfl⟩)
    go_ret
    exact ⟨ret_bool (by first | exact HS.out.symm | (rw [HS.out]; simp)), H1.out.bel⟩
  subst h4
  obtain ⟨hs, hhs⟩ : ∃ b, SetM.has want p = b := ⟨_, rfl⟩
  have HA : Hid (∀ W, Calls Try.prog 59 #[.int .i64 want, .int .i64 p] W fun e w' => e = .returned (.bool hs) ∧ W = w') := Lib.hid (fun W => by rw [← hhs]; exact Set.has_any _ _ W)
  rw [hhs] at HR
  clear hhs
  have d1 : decide (min ≤ tm) = true := decide_eq_true h1
  cases hs
  · have HS : Hid (res = true) := Lib.hid (by rw [HR.out]; rw [d1, e2, e3]; rfl)
    clear HR
    go_wp2_with (go_at_call 59; with_reducible refine (HA.out _).mono ?_; rintro e w' ⟨rfl, rfl⟩)
    go_ret
    exact ⟨ret_bool (by first | exact HS.out.symm | (rw [HS.out]; simp)), H1.out.bel⟩
  · have HS : Hid (res = false) := Lib.hid (by rw [HR.out]; rw [d1, e2, e3]; rfl)
    clear HR
    go_wp2_with (go_at_call 59; with_reducible refine (HA.out _).mono ?_; rintro e w' ⟨rfl, rfl⟩)
    go_ret
    exact ⟨ret_bool (by first | exact HS.out.symm | (rw [HS.out]; simp)), H1.out.bel⟩
end Rg
namespace Rg
open Go Go.ChangeShapes Go.WideShapes Go.ChangeAt Go.RowKit
open Tab Flat TabArg QL Ru PlanM
open ChkM (cfAt)
open Clear (phAt)
open PlaceM (where_ spots Spt)
open May (infoP)
section
theorem fold_set (off : Nat) : ∀ (l : List Value) (k : Nat) (cs : Array Value), off + k + l.length ≤ cs.size → (l.zipIdx k).foldl (fun (cs : Array Value) (x : Value × Nat) => cs.setIfInBounds (off + x.2) x.1) cs = (cs.toList.take (off + k) ++ l ++ cs.toList.drop (off + k + l.length)).toArray
  | [], k, cs, h => by simp
  | x :: m, k, cs, h => by
    rw [List.length_cons] at h
    rw [List.zipIdx_cons, List.foldl_cons, fold_set off m (k + 1) _ (by simp; omega)]
    apply Array.ext'
    simp only [Array.toList_setIfInBounds, List.length_cons]
    have e1 : (cs.toList.set (off + k) x).take (off + (k + 1)) = cs.toList.take (off + k) ++ [x] := by
      rw [← Nat.add_assoc, PlaceM.take_succ (v := x) (by rw [List.getElem?_set]; simp; omega), List.take_set_of_le (by omega)]
    have e2 : (cs.toList.set (off + k) x).drop (off + (k + 1) + m.length) = cs.toList.drop (off + k + (m.length + 1)) := by
      rw [List.drop_set_of_lt (by omega)]; congr 1; omega
    rw [e1, e2]; simp
theorem fill_one (place : Nat → Option (Nat × Nat)) (Z pre l : List Value) (i : Nat) (v : Value) (rest : List (Nat × Value)) (hp : place i = some (pre.length, l.length)) (hv : v.cells = l.toArray) (hz : pre.length + l.length ≤ Z.length) :
    Instr.fill place (pre ++ Z.drop pre.length).toArray ((i, v) :: rest) = Instr.fill place ((pre ++ l) ++ Z.drop (pre ++ l).length).toArray rest := by
  rw [Instr.fill, hp]
  dsimp only
  rw [if_neg (by rw [hv]; simp; omega)]
  congr 1
  rw [hv]
  have := fold_set pre.length l 0 (pre ++ Z.drop pre.length).toArray (by simp; omega)
  simp only [Nat.add_zero, List.toList_toArray, List.take_left'] at this
  rw [← Array.foldl_toList, Array.toList_zipIdx, List.toList_toArray]
  refine Eq.trans this ?_
  rw [← List.drop_drop, List.drop_left, List.drop_drop, List.length_append]
end
def kPl : Array (Nat × Nat) := #[(0, 131), (131, 4), (135, 96), (231, 1), (232, 1), (233, 1)]
theorem built_k : ∃ Z : List Value, Z.length = 234 ∧ ∀ parts, Try.prog.built 96 parts = Instr.fill (kPl[·]?) Z.toArray parts :=
  ⟨((Try.prog.info? 96).bind (·.zero)).elim [] (fun v => v.cells.toList), by kernel_rfl, fun parts => by kernel_rfl⟩
theorem builtK {tc : List Value} {r : Rg} {rc : List Value} (want gr bu : Int) (h1 : tc.length = 131) (h2 : rc.length = 96) :
    Try.prog.built 96 [(0, .agg tc.toArray), (1, .agg r.cells.toArray), (2, .agg rc.toArray), (3, I want), (4, I gr), (5, I bu)] = some (kC tc r rc want gr bu).toArray := by
  obtain ⟨Z, hz, hb⟩ := built_k
  rw [hb]
  have h4 : r.cells.length = 4 := rfl
  have e0 : Z.toArray = ([] ++ Z.drop ([] : List Value).length).toArray := by simp
  rw [e0, fill_one _ Z [] tc 0 _ _ (by rw [h1]; rfl) rfl (by simp; omega)]
  rw [fill_one _ Z ([] ++ tc) r.cells 1 _ _ (by simp [h1, h4, kPl]) rfl (by simp; omega)]
  rw [fill_one _ Z ([] ++ tc ++ r.cells) rc 2 _ _ (by simp [h1, h2, h4, kPl]) rfl (by simp; omega)]
  rw [fill_one _ Z ([] ++ tc ++ r.cells ++ rc) [I want] 3 _ _ (by simp [h1, h2, h4, kPl]) rfl (by simp; omega)]
  rw [fill_one _ Z ([] ++ tc ++ r.cells ++ rc ++ [I want]) [I gr] 4 _ _ (by simp [h1, h2, h4, kPl]) rfl (by simp; omega)]
  rw [fill_one _ Z ([] ++ tc ++ r.cells ++ rc ++ [I want] ++ [I gr]) [I bu] 5 _ _ (by simp [h1, h2, h4, kPl]) rfl (by simp; omega)]
  rw [Instr.fill]
  have hd : Z.drop ([] ++ tc ++ r.cells ++ rc ++ [I want] ++ [I gr] ++ [I bu]).length = [] := List.drop_eq_nil_of_le (by simp; omega)
  rw [hd]
  simp [kC]
theorem one_tab {T : Tab} {h : Hd} {w : World} (ht : IsTab w h T) : (T.cells h).toArray.all (·.oneCell') = true := (cells_ok ht).one
theorem one_k {tc : List Value} {r : Rg} {rc : List Value} (want gr bu : Int) (h1 : tc.toArray.all (·.oneCell') = true) (h2 : rc.toArray.all (·.oneCell') = true) : (kC tc r rc want gr bu).toArray.all (·.oneCell') = true := by
  rw [List.all_toArray] at h1 h2 ⊢
  have h3 := one_rg r
  rw [List.all_toArray] at h3
  unfold kC
  rw [List.all_append, h1, List.all_append, h3, List.all_append, h2]
  rfl
end Rg
namespace Ru
open Go Go.ChangeShapes Go.WideShapes Go.ChangeAt Go.RowKit
open Tab Flat TabArg QL
open May (infoP)
open Ped (ft cu idl Ft infoFt)
open Gap (lm lf gr Tn infoTn)
end Ru
namespace Ru
open Go Go.ChangeShapes Go.WideShapes Go.ChangeAt Go.RowKit
open Tab Flat TabArg QL
open May (infoP)
open Ped (ft cu idl Ft infoFt)
open Gap (lm lf gr Tn infoTn)
theorem green_any (p : Ph) (r : Ru) (c : Cu) (w : World) : Calls Try.prog 69 #[.agg p.cells.toArray, .agg r.cells.toArray, .agg c.cells.toArray] w fun e w' => e = .returned (.tuple #[.agg (Ru.cells (sty p c (lon p r c))).toArray, .bool (duB p c (lon p r c))]) ∧ Below w.heap.size w w' := by
  obtain ⟨n1, hn1⟩ : ∃ x, Cnt.more r.tm = x := ⟨_, rfl⟩
  obtain ⟨⟨a, b⟩, hf⟩ : ∃ x, fooA p r c = x := ⟨_, rfl⟩
  obtain ⟨l1, hl1⟩ : ∃ x, lf p.gap r.lf c.he = x := ⟨_, rfl⟩
  obtain ⟨n2, hn2⟩ : ∃ x, Cnt.more r.pr = x := ⟨_, rfl⟩
  obtain ⟨e1, he1⟩ : ∃ x, Cnt.more r.ex = x := ⟨_, rfl⟩
  obtain ⟨i1, hi1⟩ : ∃ x, idl r.fs = x := ⟨_, rfl⟩
  obtain ⟨i2, hi2⟩ : ∃ x, idl a = x := ⟨_, rfl⟩
  obtain ⟨lm1, hlm⟩ : ∃ x, lm p r.tl = x := ⟨_, rfl⟩
  obtain ⟨pr1, hpr⟩ : ∃ x, (if c.ps then n2 else r.pr) = x := ⟨_, rfl⟩
  obtain ⟨dn1, hdn⟩ : ∃ x, (r.dn && !(i1 && decide (a = 1))) = x := ⟨_, rfl⟩
  obtain ⟨mx1, hmx⟩ : ∃ x, (r.mx && !(i1 && decide (a = 1))) = x := ⟨_, rfl⟩
  obtain ⟨lng, hlng⟩ : ∃ x, decide (lm1 ≤ pr1) = x := ⟨_, rfl⟩
  obtain ⟨du, hdu⟩ : ∃ x, (c.ps && (!dn1 && (decide (p.min ≤ n1) && (i2 && (decide (l1 = 0) || (lng || c.ea)))))) = x := ⟨_, rfl⟩
  obtain ⟨ex1, hex⟩ : ∃ x, (if (du && c.ho) = true then e1 else r.ex) = x := ⟨_, rfl⟩
  obtain ⟨dn2, hdn2⟩ : ∃ x, (if (du && !c.ho) = true then true else dn1) = x := ⟨_, rfl⟩
  obtain ⟨mx2, hmx2⟩ : ∃ x, (if (du && !c.ho) = true then decide (0 < l1) && lng else mx1) = x := ⟨_, rfl⟩
  have EL : lon p r c = ⟨r.co, n1, a, b, l1, pr1, r.ex, dn1, mx1, r.tl, r.tu, r.td⟩ := by unfold lon beg; rw [hn1, hf, hl1, hn2, hi1, hdn, hmx, hpr]
  have EF : fuB p (lon p r c) = lng := by rw [EL]; unfold fuB; rw [hlm, hlng]
  have ED : duB p c (lon p r c) = du := by unfold duB; rw [EF, EL]; simp only []; rw [hi2, hdu]
  have ES : sty p c (lon p r c) = ⟨r.co, n1, a, b, l1, pr1, ex1, dn2, mx2, r.tl, r.tu, r.td⟩ := by
    unfold sty
    rw [ED, EF, EL, ← hex, ← hdn2, ← hmx2]
    generalize c.ho = ho
    cases du <;> cases ho <;> simp [he1]
  rw [ED, ES]
  clear ED ES EF EL
  have HN := Lib.hid hdn
  have HM := Lib.hid hmx
  have HP1 := Lib.hid hpr
  have HL := Lib.hid hlng
  have HDU := Lib.hid hdu
  have HEX := Lib.hid hex
  have HN2 := Lib.hid hdn2
  have HM2 := Lib.hid hmx2
  clear hdn hmx hpr hlng hdu hex hdn2 hmx2
  have O1 : Hid (∀ W, Calls Try.prog 70 #[.int .i64 r.tm] W fun e w' => e = .returned (.int .i64 n1) ∧ W = w') := Lib.hid (fun W => by rw [← hn1]; exact Cnt.rmore_any _ W)
  have O2 : Hid (∀ W, Calls Try.prog 70 #[.int .i64 r.pr] W fun e w' => e = .returned (.int .i64 n2) ∧ W = w') := Lib.hid (fun W => by rw [← hn2]; exact Cnt.rmore_any _ W)
  have O3 : Hid (∀ W, Calls Try.prog 70 #[.int .i64 r.ex] W fun e w' => e = .returned (.int .i64 e1) ∧ W = w') := Lib.hid (fun W => by rw [← he1]; exact Cnt.rmore_any _ W)
  have LE : Hid (∀ W, Calls Try.prog 85 #[.agg p.cells.toArray, .int .i64 r.lf, .bool c.he] W fun e w' => e = .returned (.int .i64 l1) ∧ Below W.heap.size W w') := Lib.hid (fun W => by rw [← hl1]; exact Gap.rleft_any p _ _ W)
  have ID : Hid (∀ W, Calls Try.prog 84 #[.agg #[I r.fs, I r.ft]] W fun e w' => e = .returned (.bool i1) ∧ Below W.heap.size W w') := Lib.hid (fun W => by rw [← hi1]; exact Ped.idle_any _ _ W)
  have ID2 : Hid (∀ W, Calls Try.prog 84 #[.agg #[I a, I b]] W fun e w' => e = .returned (.bool i2) ∧ Below W.heap.size W w') := Lib.hid (fun W => by rw [← hi2]; exact Ped.idle_any _ _ W)
  have LM : Hid (∀ W, Calls Try.prog 81 #[.agg p.cells.toArray, .agg #[I r.tl, I r.tu, I r.td]] W fun e w' => e = .returned (.int .i64 lm1) ∧ Below W.heap.size W w') := Lib.hid (fun W => by rw [← hlm]; exact Gap.rlim_any p _ _ _ W)
  have HF := Lib.hid hf
  clear hf hn1 hn2 he1 hl1 hi1 hi2 hlm
  have hn0 := Blk.Bks.nil w
  have hn1 := hn0.alloc p.cells.toArray 24
  have hn2 := hn1.alloc (Ru.cells r).toArray 45
  rw [show (w.alloc (.cells p.cells.toArray 24)).heap.size = w.heap.size + 1 by simp] at hn2
  have hn3 := hn2.alloc c.cells.toArray 107
  rw [show ((w.alloc (.cells p.cells.toArray 24)).alloc (.cells (Ru.cells r).toArray 45)).heap.size = w.heap.size + 1 + 1 by simp] at hn3
  have hn4 := hn3.alloc #[I 0, I 0, I 0, I 0, I 0, I 0, I 0, .bool false, .bool false, I 0, I 0, I 0] 45
  rw [show (((w.alloc (.cells p.cells.toArray 24)).alloc (.cells (Ru.cells r).toArray 45)).alloc (.cells c.cells.toArray 107)).heap.size = w.heap.size + 1 + 1 + 1 by simp] at hn4
  clear hn0
  clear hn1
  clear hn2
  clear hn3
  go_enter Try.func69, Try.ntmps69
  go_upto_region 1 with fail
  generalize World.alloc (World.alloc (World.alloc (World.alloc w _) _) _) _ = v at hn4 ⊢
  generalize hg3 : w.heap.size + 1 + 1 + 1 = gz at hn4 ⊢
  generalize hg2 : w.heap.size + 1 + 1 = gc at hn4 ⊢
  generalize hg1 : w.heap.size + 1 = gr at hn4 ⊢
  generalize hg0 : w.heap.size = gp at hn4 ⊢
  clear hg0 hg1 hg2 hg3
  have H0 := Lib.hid hn4
  clear hn4
  go_upto_region 2 with (first | (refine Row.wpList_load_g 45 _ rfl (by first | rfl | (go_simp; done) | fail) ⟨gr, 0, none⟩ rfl r.cells _ (seg H0.out 2 0 rfl _ rfl) Try.underlying45 rfl infoRu ?_) | (refine Row.wpList_store_new rfl 45 _ _ rfl _ _ (Ru.cells r).toArray rfl rfl rfl infoRu rfl (one_ru _) ?_))
  have hn := H0.out.alloc (Ru.cells r).toArray 45
  generalize World.alloc v _ = v1 at hn ⊢
  generalize v.heap.size = gn at hn ⊢
  have H1 := Lib.hid hn
  clear hn
  clear H0
  rename_i K hK
  have HK := Lib.hid hK
  clear hK
  have t_rtm : v1.cell? ⟨gr, 1, none⟩ = some (I r.tm) := H1.out.cell 3 1 rfl rfl
  have n_tm : v1.cell? ⟨gn, 1, none⟩ = some (I r.tm) := H1.out.cell 0 1 rfl rfl
  have f_tm : v1.frozen? ⟨gn, 1, none⟩ = false := H1.out.frozen 0 1 rfl
  go_wp2_with (go_at_call 70; with_reducible refine (O1.out _).mono ?_; rintro e w' ⟨rfl, rfl⟩)
  have hput := H1.out.set 0 1 rfl (I n1)
  rw [show Array.setIfInBounds _ 1 (I n1) = (Ru.cells ⟨r.co, n1, r.fs, r.ft, r.lf, r.pr, r.ex, r.dn, r.mx, r.tl, r.tu, r.td⟩).toArray from rfl] at hput
  simp only [List.set_cons_succ, List.set_cons_zero] at hput
  generalize World.setCell v1 _ _ = v2 at hput ⊢
  have H2 := Lib.hid hput
  clear hput
  clear H1 t_rtm n_tm f_tm O1
  refine HK.out _ _ ?_
  clear HK K
  apply wp_seq_k
  intro K hK
  have HK := Lib.hid hK
  clear hK
  go_cut [] from 11 (fun wx => Blk.Bks w [(gn, (Ru.cells ⟨r.co, n1, a, b, r.lf, r.pr, r.ex, r.dn, r.mx, r.tl, r.tu, r.td⟩).toArray, 45), (gz, #[I 0, I 0, I 0, I 0, I 0, I 0, I 0, .bool false, .bool false, I 0, I 0, I 0], 45), (gc, c.cells.toArray, 107), (gr, r.cells.toArray, 45), (gp, p.cells.toArray, 24)] wx)
  case first =>
    have t_ckt : v2.cell? ⟨gc, 7, none⟩ = some (.bool c.kt) := H2.out.cell 2 7 rfl rfl
    have t_rfs : v2.cell? ⟨gr, 2, none⟩ = some (I r.fs) := H2.out.cell 3 2 rfl rfl
    have t_cpu : v2.cell? ⟨gc, 3, none⟩ = some (.bool c.pu) := H2.out.cell 2 3 rfl rfl
    have t_cps : v2.cell? ⟨gc, 4, none⟩ = some (.bool c.ps) := H2.out.cell 2 4 rfl rfl
    have hf := HF.out
    unfold fooA at hf
    obtain ⟨pu, hpu⟩ : ∃ x, c.pu = x := ⟨_, rfl⟩
    obtain ⟨ps, hps⟩ : ∃ x, c.ps = x := ⟨_, rfl⟩
    obtain ⟨kt, hkt⟩ : ∃ x, c.kt = x := ⟨_, rfl⟩
    obtain ⟨fs, hfs⟩ : ∃ x, r.fs = x := ⟨_, rfl⟩
    rw [hpu, hps, hkt, hfs] at hf
    rw [hpu] at t_cpu
    rw [hps] at t_cps
    rw [hkt] at t_ckt
    rw [hfs] at t_rfs
    cases kt
    · rw [if_neg (by simp)] at hf
      cases pu
      · replace hf : ft p.walk p.blinks fs r.ft false = ⟨a, b⟩ := hf
        have CU : Hid (∀ W, Calls Try.prog 71 #[.agg p.cells.toArray, .agg #[I fs, I r.ft], .bool false] W fun e w' => e = .returned (.agg #[I a, I b]) ∧ Below W.heap.size W w') := Lib.hid (fun W => Ped.foot_is hf W)
        clear hf
        go_wp2_with (first | (refine Row.wpList_load_g 24 _ rfl (by first | rfl | (go_simp; done) | fail) ⟨gp, 0, none⟩ rfl p.cells _ (seg H2.out 4 0 rfl _ rfl) Try.underlying24 rfl infoP ?_) | (refine Row.wpList_load_g 41 _ rfl (by first | rfl | (go_simp; done) | fail) ⟨gr, 2, none⟩ rfl [I fs, I r.ft] _ (seg H2.out 3 2 rfl _ (by first | rfl | (rw [← hfs]; rfl))) Try.underlying41 rfl infoFt ?_))
        refine (CU.out _).mono ?_
        rintro e v3 ⟨rfl, bc⟩
        have H3 := Lib.hid (H2.out.step bc)
        clear bc
        go_wp2_with (refine store_mid rfl 41 _ _ rfl gn 2 #[I a, I b] rfl rfl 45 _ (Ru.cells ⟨r.co, n1, a, b, r.lf, r.pr, r.ex, r.dn, r.mx, r.tl, r.tu, r.td⟩).toArray H3.out 0 rfl infoFt (by first | decide | (simp [Ru.cells]; done) | fail) (by simp [Value.oneCell']) rfl ?_)
        have hput := H3.out.put 0 rfl (Ru.cells ⟨r.co, n1, a, b, r.lf, r.pr, r.ex, r.dn, r.mx, r.tl, r.tu, r.td⟩).toArray
        simp only [List.set_cons_succ, List.set_cons_zero] at hput
        generalize World.setRow _ gn _ = v4 at hput ⊢
        have H4 := Lib.hid hput
        clear hput
        go_meet
        case rel => exact H4.out
      · cases ps
        · replace hf : ft p.walk p.blinks fs r.ft true = ⟨a, b⟩ := hf
          have CU : Hid (∀ W, Calls Try.prog 71 #[.agg p.cells.toArray, .agg #[I fs, I r.ft], .bool true] W fun e w' => e = .returned (.agg #[I a, I b]) ∧ Below W.heap.size W w') := Lib.hid (fun W => Ped.foot_is hf W)
          clear hf
          go_wp2_with (first | (refine Row.wpList_load_g 24 _ rfl (by first | rfl | (go_simp; done) | fail) ⟨gp, 0, none⟩ rfl p.cells _ (seg H2.out 4 0 rfl _ rfl) Try.underlying24 rfl infoP ?_) | (refine Row.wpList_load_g 41 _ rfl (by first | rfl | (go_simp; done) | fail) ⟨gr, 2, none⟩ rfl [I fs, I r.ft] _ (seg H2.out 3 2 rfl _ (by first | rfl | (rw [← hfs]; rfl))) Try.underlying41 rfl infoFt ?_))
          refine (CU.out _).mono ?_
          rintro e v3 ⟨rfl, bc⟩
          have H3 := Lib.hid (H2.out.step bc)
          clear bc
          go_wp2_with (refine store_mid rfl 41 _ _ rfl gn 2 #[I a, I b] rfl rfl 45 _ (Ru.cells ⟨r.co, n1, a, b, r.lf, r.pr, r.ex, r.dn, r.mx, r.tl, r.tu, r.td⟩).toArray H3.out 0 rfl infoFt (by first | decide | (simp [Ru.cells]; done) | fail) (by simp [Value.oneCell']) rfl ?_)
          have hput := H3.out.put 0 rfl (Ru.cells ⟨r.co, n1, a, b, r.lf, r.pr, r.ex, r.dn, r.mx, r.tl, r.tu, r.td⟩).toArray
          simp only [List.set_cons_succ, List.set_cons_zero] at hput
          generalize World.setRow _ gn _ = v4 at hput ⊢
          have H4 := Lib.hid hput
          clear hput
          go_meet
          case rel => exact H4.out
        · replace hf : ft p.walk p.blinks fs r.ft false = ⟨a, b⟩ := hf
          have CU : Hid (∀ W, Calls Try.prog 71 #[.agg p.cells.toArray, .agg #[I fs, I r.ft], .bool false] W fun e w' => e = .returned (.agg #[I a, I b]) ∧ Below W.heap.size W w') := Lib.hid (fun W => Ped.foot_is hf W)
          clear hf
          go_wp2_with (first | (refine Row.wpList_load_g 24 _ rfl (by first | rfl | (go_simp; done) | fail) ⟨gp, 0, none⟩ rfl p.cells _ (seg H2.out 4 0 rfl _ rfl) Try.underlying24 rfl infoP ?_) | (refine Row.wpList_load_g 41 _ rfl (by first | rfl | (go_simp; done) | fail) ⟨gr, 2, none⟩ rfl [I fs, I r.ft] _ (seg H2.out 3 2 rfl _ (by first | rfl | (rw [← hfs]; rfl))) Try.underlying41 rfl infoFt ?_))
          refine (CU.out _).mono ?_
          rintro e v3 ⟨rfl, bc⟩
          have H3 := Lib.hid (H2.out.step bc)
          clear bc
          go_wp2_with (refine store_mid rfl 41 _ _ rfl gn 2 #[I a, I b] rfl rfl 45 _ (Ru.cells ⟨r.co, n1, a, b, r.lf, r.pr, r.ex, r.dn, r.mx, r.tl, r.tu, r.td⟩).toArray H3.out 0 rfl infoFt (by first | decide | (simp [Ru.cells]; done) | fail) (by simp [Value.oneCell']) rfl ?_)
          have hput := H3.out.put 0 rfl (Ru.cells ⟨r.co, n1, a, b, r.lf, r.pr, r.ex, r.dn, r.mx, r.tl, r.tu, r.td⟩).toArray
          simp only [List.set_cons_succ, List.set_cons_zero] at hput
          generalize World.setRow _ gn _ = v4 at hput ⊢
          have H4 := Lib.hid hput
          clear hput
          go_meet
          case rel => exact H4.out
    by_cases h1 : fs = 1
    · subst h1
      rw [if_pos ⟨rfl, rfl⟩] at hf
      have CU : Hid (∀ W, Calls Try.prog 83 #[.agg #[I 1, I r.ft]] W fun e w' => e = .returned (.agg #[I a, I b]) ∧ Below W.heap.size W w') := Lib.hid (fun W => Ped.rcut_is hf W)
      clear hf
      go_wp2_with (first | (refine Row.wpList_load_g 41 _ rfl (by first | rfl | (go_simp; done) | fail) ⟨gr, 2, none⟩ rfl [I 1, I r.ft] _ (seg H2.out 3 2 rfl _ (by first | rfl | (rw [← hfs]; rfl))) Try.underlying41 rfl infoFt ?_))
      refine (CU.out _).mono ?_
      rintro e v3 ⟨rfl, bc⟩
      have H3 := Lib.hid (H2.out.step bc)
      clear bc
      go_wp2_with (refine store_mid rfl 41 _ _ rfl gn 2 #[I a, I b] rfl rfl 45 _ (Ru.cells ⟨r.co, n1, a, b, r.lf, r.pr, r.ex, r.dn, r.mx, r.tl, r.tu, r.td⟩).toArray H3.out 0 rfl infoFt (by first | decide | (simp [Ru.cells]; done) | fail) (by simp [Value.oneCell']) rfl ?_)
      have hput := H3.out.put 0 rfl (Ru.cells ⟨r.co, n1, a, b, r.lf, r.pr, r.ex, r.dn, r.mx, r.tl, r.tu, r.td⟩).toArray
      simp only [List.set_cons_succ, List.set_cons_zero] at hput
      generalize World.setRow _ gn _ = v4 at hput ⊢
      have H4 := Lib.hid hput
      clear hput
      go_meet
      case rel => exact H4.out
    have z1 : (fs == 1) = false := by rw [beq_eq_false_iff_ne]; exact h1
    rw [if_neg (fun h => h1 h.2)] at hf
    cases pu
    · replace hf : ft p.walk p.blinks fs r.ft false = ⟨a, b⟩ := hf
      have CU : Hid (∀ W, Calls Try.prog 71 #[.agg p.cells.toArray, .agg #[I fs, I r.ft], .bool false] W fun e w' => e = .returned (.agg #[I a, I b]) ∧ Below W.heap.size W w') := Lib.hid (fun W => Ped.foot_is hf W)
      clear hf
      go_wp2_with (first | (refine Row.wpList_load_g 24 _ rfl (by first | rfl | (go_simp; done) | fail) ⟨gp, 0, none⟩ rfl p.cells _ (seg H2.out 4 0 rfl _ rfl) Try.underlying24 rfl infoP ?_) | (refine Row.wpList_load_g 41 _ rfl (by first | rfl | (go_simp; done) | fail) ⟨gr, 2, none⟩ rfl [I fs, I r.ft] _ (seg H2.out 3 2 rfl _ (by first | rfl | (rw [← hfs]; rfl))) Try.underlying41 rfl infoFt ?_))
      refine (CU.out _).mono ?_
      rintro e v3 ⟨rfl, bc⟩
      have H3 := Lib.hid (H2.out.step bc)
      clear bc
      go_wp2_with (refine store_mid rfl 41 _ _ rfl gn 2 #[I a, I b] rfl rfl 45 _ (Ru.cells ⟨r.co, n1, a, b, r.lf, r.pr, r.ex, r.dn, r.mx, r.tl, r.tu, r.td⟩).toArray H3.out 0 rfl infoFt (by first | decide | (simp [Ru.cells]; done) | fail) (by simp [Value.oneCell']) rfl ?_)
      have hput := H3.out.put 0 rfl (Ru.cells ⟨r.co, n1, a, b, r.lf, r.pr, r.ex, r.dn, r.mx, r.tl, r.tu, r.td⟩).toArray
      simp only [List.set_cons_succ, List.set_cons_zero] at hput
      generalize World.setRow _ gn _ = v4 at hput ⊢
      have H4 := Lib.hid hput
      clear hput
      go_meet
      case rel => exact H4.out
    · cases ps
      · replace hf : ft p.walk p.blinks fs r.ft true = ⟨a, b⟩ := hf
        have CU : Hid (∀ W, Calls Try.prog 71 #[.agg p.cells.toArray, .agg #[I fs, I r.ft], .bool true] W fun e w' => e = .returned (.agg #[I a, I b]) ∧ Below W.heap.size W w') := Lib.hid (fun W => Ped.foot_is hf W)
        clear hf
        go_wp2_with (first | (refine Row.wpList_load_g 24 _ rfl (by first | rfl | (go_simp; done) | fail) ⟨gp, 0, none⟩ rfl p.cells _ (seg H2.out 4 0 rfl _ rfl) Try.underlying24 rfl infoP ?_) | (refine Row.wpList_load_g 41 _ rfl (by first | rfl | (go_simp; done) | fail) ⟨gr, 2, none⟩ rfl [I fs, I r.ft] _ (seg H2.out 3 2 rfl _ (by first | rfl | (rw [← hfs]; rfl))) Try.underlying41 rfl infoFt ?_))
        refine (CU.out _).mono ?_
        rintro e v3 ⟨rfl, bc⟩
        have H3 := Lib.hid (H2.out.step bc)
        clear bc
        go_wp2_with (refine store_mid rfl 41 _ _ rfl gn 2 #[I a, I b] rfl rfl 45 _ (Ru.cells ⟨r.co, n1, a, b, r.lf, r.pr, r.ex, r.dn, r.mx, r.tl, r.tu, r.td⟩).toArray H3.out 0 rfl infoFt (by first | decide | (simp [Ru.cells]; done) | fail) (by simp [Value.oneCell']) rfl ?_)
        have hput := H3.out.put 0 rfl (Ru.cells ⟨r.co, n1, a, b, r.lf, r.pr, r.ex, r.dn, r.mx, r.tl, r.tu, r.td⟩).toArray
        simp only [List.set_cons_succ, List.set_cons_zero] at hput
        generalize World.setRow _ gn _ = v4 at hput ⊢
        have H4 := Lib.hid hput
        clear hput
        go_meet
        case rel => exact H4.out
      · replace hf : ft p.walk p.blinks fs r.ft false = ⟨a, b⟩ := hf
        have CU : Hid (∀ W, Calls Try.prog 71 #[.agg p.cells.toArray, .agg #[I fs, I r.ft], .bool false] W fun e w' => e = .returned (.agg #[I a, I b]) ∧ Below W.heap.size W w') := Lib.hid (fun W => Ped.foot_is hf W)
        clear hf
        go_wp2_with (first | (refine Row.wpList_load_g 24 _ rfl (by first | rfl | (go_simp; done) | fail) ⟨gp, 0, none⟩ rfl p.cells _ (seg H2.out 4 0 rfl _ rfl) Try.underlying24 rfl infoP ?_) | (refine Row.wpList_load_g 41 _ rfl (by first | rfl | (go_simp; done) | fail) ⟨gr, 2, none⟩ rfl [I fs, I r.ft] _ (seg H2.out 3 2 rfl _ (by first | rfl | (rw [← hfs]; rfl))) Try.underlying41 rfl infoFt ?_))
        refine (CU.out _).mono ?_
        rintro e v3 ⟨rfl, bc⟩
        have H3 := Lib.hid (H2.out.step bc)
        clear bc
        go_wp2_with (refine store_mid rfl 41 _ _ rfl gn 2 #[I a, I b] rfl rfl 45 _ (Ru.cells ⟨r.co, n1, a, b, r.lf, r.pr, r.ex, r.dn, r.mx, r.tl, r.tu, r.td⟩).toArray H3.out 0 rfl infoFt (by first | decide | (simp [Ru.cells]; done) | fail) (by simp [Value.oneCell']) rfl ?_)
        have hput := H3.out.put 0 rfl (Ru.cells ⟨r.co, n1, a, b, r.lf, r.pr, r.ex, r.dn, r.mx, r.tl, r.tu, r.td⟩).toArray
        simp only [List.set_cons_succ, List.set_cons_zero] at hput
        generalize World.setRow _ gn _ = v4 at hput ⊢
        have H4 := Lib.hid hput
        clear hput
        go_meet
        case rel => exact H4.out
  case rest =>
  have H5 := Lib.hid hcut
  clear hcut
  rename World => v5
  clear H2 HF
  refine HK.out _ _ ?_
  clear HK K
  apply wp_seq_k
  intro K hK
  have HK := Lib.hid hK
  clear hK
  go_cut [] from 11 (fun wx => Blk.Bks w [(gn, (Ru.cells ⟨r.co, n1, a, b, r.lf, r.pr, r.ex, dn1, mx1, r.tl, r.tu, r.td⟩).toArray, 45), (gz, #[I 0, I 0, I 0, I 0, I 0, I 0, I 0, .bool false, .bool false, I 0, I 0, I 0], 45), (gc, c.cells.toArray, 107), (gr, r.cells.toArray, 45), (gp, p.cells.toArray, 24)] wx)
  case first =>
    go_wp2_with (refine Row.wpList_load_g 41 _ rfl (by first | rfl | (go_simp; done) | fail) ⟨gr, 2, none⟩ rfl [I r.fs, I r.ft] _ (seg H5.out 3 2 rfl _ rfl) Try.underlying41 rfl infoFt ?_)
    refine (ID.out _).mono ?_
    rintro e v6 ⟨rfl, bc⟩
    have H6 := Lib.hid (H5.out.step bc)
    clear bc
    cases i1
    · have e1 : dn1 = r.dn := by rw [← HN.out]; simp
      have e2 : mx1 = r.mx := by rw [← HM.out]; simp
      go_wp2_with fail
      go_meet
      case rel => rw [e1, e2]; exact H6.out
    have n_fs : v6.cell? ⟨gn, 2, none⟩ = some (I a) := H6.out.cell 0 2 rfl rfl
    by_cases h1 : a = 1
    rotate_left
    · have z1 : (a == 1) = false := by rw [beq_eq_false_iff_ne]; exact h1
      have e1 : dn1 = r.dn := by rw [← HN.out]; simp [h1]
      have e2 : mx1 = r.mx := by rw [← HM.out]; simp [h1]
      go_wp2_with fail
      go_meet
      case rel => rw [e1, e2]; exact H6.out
    have z1 : (a == 1) = true := by rw [beq_iff_eq]; exact h1
    have e1 : dn1 = false := by rw [← HN.out]; simp [h1]
    have e2 : mx1 = false := by rw [← HM.out]; simp [h1]
    clear h1
    have n_dn : v6.cell? ⟨gn, 7, none⟩ = some (.bool r.dn) := H6.out.cell 0 7 rfl rfl
    have f_dn : v6.frozen? ⟨gn, 7, none⟩ = false := H6.out.frozen 0 7 rfl
    have n_mx : v6.cell? ⟨gn, 8, none⟩ = some (.bool r.mx) := H6.out.cell 0 8 rfl rfl
    have f_mx : v6.frozen? ⟨gn, 8, none⟩ = false := H6.out.frozen 0 8 rfl
    go_wp2_with fail
    have hput := (H6.out.set 0 7 rfl (.bool false)).set 0 8 rfl (.bool false)
    rw [show Array.setIfInBounds (Array.setIfInBounds _ 7 (.bool false)) 8 (.bool false) = (Ru.cells ⟨r.co, n1, a, b, r.lf, r.pr, r.ex, false, false, r.tl, r.tu, r.td⟩).toArray from rfl] at hput
    simp only [List.set_cons_succ, List.set_cons_zero] at hput
    generalize World.setCell (World.setCell v6 _ _) _ _ = v9 at hput ⊢
    go_meet
    case rel => rw [e1, e2]; exact hput
  case rest =>
  have H7 := Lib.hid hcut
  clear hcut
  rename World => v7
  clear H5 ID
  refine HK.out _ _ ?_
  clear HK K
  go_upto_region 9 with fail
  rename_i K hK
  have HK := Lib.hid hK
  clear hK
  have t_rlf : v7.cell? ⟨gr, 4, none⟩ = some (I r.lf) := H7.out.cell 3 4 rfl rfl
  have t_che : v7.cell? ⟨gc, 2, none⟩ = some (.bool c.he) := H7.out.cell 2 2 rfl rfl
  go_wp2_with (refine Row.wpList_load_g 24 _ rfl (by first | rfl | (go_simp; done) | fail) ⟨gp, 0, none⟩ rfl p.cells _ (seg H7.out 4 0 rfl _ rfl) Try.underlying24 rfl infoP ?_)
  refine (LE.out _).mono ?_
  rintro e v8 ⟨rfl, bc⟩
  have H8 := Lib.hid (H7.out.step bc)
  clear bc
  clear H7 LE t_rlf t_che
  have n_lf : v8.cell? ⟨gn, 4, none⟩ = some (I r.lf) := H8.out.cell 0 4 rfl rfl
  have f_lf : v8.frozen? ⟨gn, 4, none⟩ = false := H8.out.frozen 0 4 rfl
  go_wp2_with fail
  have hput := H8.out.set 0 4 rfl (I l1)
  rw [show Array.setIfInBounds _ 4 (I l1) = (Ru.cells ⟨r.co, n1, a, b, l1, r.pr, r.ex, dn1, mx1, r.tl, r.tu, r.td⟩).toArray from rfl] at hput
  simp only [List.set_cons_succ, List.set_cons_zero] at hput
  generalize World.setCell v8 _ _ = v9 at hput ⊢
  have H9 := Lib.hid hput
  clear hput
  clear H8 n_lf f_lf
  refine HK.out _ _ ?_
  clear HK K
  apply wp_seq_k
  intro K hK
  have HK := Lib.hid hK
  clear hK
  go_cut [] from 11 (fun wx => Blk.Bks w [(gn, (Ru.cells ⟨r.co, n1, a, b, l1, pr1, r.ex, dn1, mx1, r.tl, r.tu, r.td⟩).toArray, 45), (gz, #[I 0, I 0, I 0, I 0, I 0, I 0, I 0, .bool false, .bool false, I 0, I 0, I 0], 45), (gc, c.cells.toArray, 107), (gr, r.cells.toArray, 45), (gp, p.cells.toArray, 24)] wx)
  case first =>
    have t_cps : v9.cell? ⟨gc, 4, none⟩ = some (.bool c.ps) := H9.out.cell 2 4 rfl rfl
    have t_rpr : v9.cell? ⟨gr, 5, none⟩ = some (I r.pr) := H9.out.cell 3 5 rfl rfl
    obtain ⟨ps, hps⟩ : ∃ x, c.ps = x := ⟨_, rfl⟩
    rw [hps] at t_cps
    cases ps
    · have e1 : pr1 = r.pr := by rw [← HP1.out, hps]; rfl
      clear hps
      go_wp2_with fail
      go_meet
      case rel => rw [e1]; exact H9.out
    have e1 : pr1 = n2 := by rw [← HP1.out, hps]; rfl
    clear hps
    have n_pr : v9.cell? ⟨gn, 5, none⟩ = some (I r.pr) := H9.out.cell 0 5 rfl rfl
    have f_pr : v9.frozen? ⟨gn, 5, none⟩ = false := H9.out.frozen 0 5 rfl
    go_wp2_with (go_at_call 70; with_reducible refine (O2.out _).mono ?_; rintro e w' ⟨rfl, rfl⟩)
    have hput := H9.out.set 0 5 rfl (I n2)
    rw [show Array.setIfInBounds _ 5 (I n2) = (Ru.cells ⟨r.co, n1, a, b, l1, n2, r.ex, dn1, mx1, r.tl, r.tu, r.td⟩).toArray from rfl] at hput
    simp only [List.set_cons_succ, List.set_cons_zero] at hput
    generalize World.setCell v9 _ _ = va at hput ⊢
    have HA := Lib.hid hput
    clear hput
    go_meet
    case rel => rw [e1]; exact HA.out
  case rest =>
  have HB := Lib.hid hcut
  clear hcut
  rename World => vb
  clear H9 O2
  refine HK.out _ _ ?_
  clear HK K
  go_upto_region 12 with fail
  (try dsimp only [Act.put])
  have q1 : ∀ q : QB.By vb.heap.size vb, q.world.cell? ⟨gn, 5, none⟩ = some (I pr1) := fun q => (HB.out.by q).cell 0 5 rfl rfl
  refine QB.region_below vb.heap.size (by kernel_rfl) (by kernel_rfl) ?_
  repeat first
    | (refine wpQuiet_load rfl 24 _ rfl ⟨gp, 0, none⟩ rfl p.cells _ (fun w' ⟨pw, e⟩ => by rw [e]; exact seg (HB.out.by pw) 4 0 rfl _ rfl) Try.underlying24 rfl infoP ?_
       dsimp only [Act.put]
       simp only [List.setIfInBounds_toArray, List.set_cons_zero, List.set_cons_succ])
    | (refine wpQuiet_load rfl 43 _ rfl ⟨gr, 9, none⟩ rfl [I r.tl, I r.tu, I r.td] _ (fun w' ⟨pw, e⟩ => by rw [e]; exact seg (HB.out.by pw) 3 9 rfl _ rfl) Try.underlying43 rfl infoTn ?_
       dsimp only [Act.put]
       simp only [List.setIfInBounds_toArray, List.set_cons_zero, List.set_cons_succ])
    | ((quiet_step (first | (go_at_call 81; with_reducible exact QB.call_of (Nat.le_refl _) (fun b => LM.out _)))))
  refine wpQuiet_nil ?_
  intro _ hw'
  obtain ⟨pq, rfl⟩ := hw'
  have HP := Lib.hid (HB.out.by pq)
  clear q1 HB LM
  generalize pq.world = vc at HP ⊢
  have eL : decide (lm1 ≤ pr1) = lng := HL.out
  go_upto_region 13 with fail
  (try simp only [ge_iff_le])
  rw [eL]
  clear eL
  rename_i K hK
  have HK := Lib.hid hK
  clear hK
  go_cut [10] from 11 (fun t10 wx => t10 = .bool du ∧ Blk.Bks w [(gn, (Ru.cells ⟨r.co, n1, a, b, l1, pr1, r.ex, dn1, mx1, r.tl, r.tu, r.td⟩).toArray, 45), (gz, #[I 0, I 0, I 0, I 0, I 0, I 0, I 0, .bool false, .bool false, I 0, I 0, I 0], 45), (gc, c.cells.toArray, 107), (gr, r.cells.toArray, 45), (gp, p.cells.toArray, 24)] wx)
  case first =>
    have t_cps : vc.cell? ⟨gc, 4, none⟩ = some (.bool c.ps) := HP.out.cell 2 4 rfl rfl
    have t_pmin : vc.cell? ⟨gp, 1, none⟩ = some (I p.min) := HP.out.cell 4 1 rfl rfl
    have t_cea : vc.cell? ⟨gc, 6, none⟩ = some (.bool c.ea) := HP.out.cell 2 6 rfl rfl
    have n_tm : vc.cell? ⟨gn, 1, none⟩ = some (I n1) := HP.out.cell 0 1 rfl rfl
    have n_dn : vc.cell? ⟨gn, 7, none⟩ = some (.bool dn1) := HP.out.cell 0 7 rfl rfl
    have n_lf : vc.cell? ⟨gn, 4, none⟩ = some (I l1) := HP.out.cell 0 4 rfl rfl
    have hd := HDU.out
    obtain ⟨ps, hps⟩ : ∃ x, c.ps = x := ⟨_, rfl⟩
    obtain ⟨ea, hea⟩ : ∃ x, c.ea = x := ⟨_, rfl⟩
    obtain ⟨mi, hmi⟩ : ∃ x, p.min = x := ⟨_, rfl⟩
    rw [hps, hea, hmi] at hd
    rw [hps] at t_cps
    rw [hmi] at t_pmin
    rw [hea] at t_cea
    cases ps
    · have e1 : du = false := by rw [← hd]; clear hd; simp [*]
      clear hd
      go_wp2_with fail
      go_meet
      case rel => exact ⟨by rw [e1], HP.out⟩
    cases dn1
    rotate_left
    · have e1 : du = false := by rw [← hd]; clear hd; simp [*]
      clear hd
      go_wp2_with fail
      go_meet
      case rel => exact ⟨by rw [e1], HP.out⟩
    by_cases h1 : mi ≤ n1
    rotate_left
    · have e1 : du = false := by rw [← hd]; clear hd; simp [*]
      clear hd
      go_wp2_with fail
      go_meet
      case rel => exact ⟨by rw [e1], HP.out⟩
    go_wp2_with (refine Row.wpList_load_g 41 _ rfl (by first | rfl | (go_simp; done) | fail) ⟨gn, 2, none⟩ rfl [I a, I b] _ (seg HP.out 0 2 rfl _ rfl) Try.underlying41 rfl infoFt ?_)
    refine (ID2.out _).mono ?_
    rintro e vd ⟨rfl, bc⟩
    have HQ := Lib.hid (HP.out.step bc)
    clear bc
    clear t_cps t_pmin t_cea n_tm n_dn n_lf
    have t_cea : vd.cell? ⟨gc, 6, none⟩ = some (.bool c.ea) := HQ.out.cell 2 6 rfl rfl
    have n_lf : vd.cell? ⟨gn, 4, none⟩ = some (I l1) := HQ.out.cell 0 4 rfl rfl
    rw [hea] at t_cea
    cases i2
    · have e1 : du = false := by rw [← hd]; clear hd; simp [*]
      clear hd
      go_wp2_with fail
      go_meet
      case rel => exact ⟨by rw [e1], HQ.out⟩
    by_cases h2 : l1 = 0
    · have z2 : (l1 == 0) = true := by rw [beq_iff_eq]; exact h2
      have e1 : du = true := by rw [← hd]; clear hd; simp [*]
      clear hd
      go_wp2_with fail
      go_meet
      case rel => exact ⟨by rw [e1], HQ.out⟩
    have z2 : (l1 == 0) = false := by rw [beq_eq_false_iff_ne]; exact h2
    cases lng
    · cases ea
      · have e1 : du = false := by rw [← hd]; clear hd; simp [*]
        clear hd
        go_wp2_with fail
        go_meet
        case rel => exact ⟨by rw [e1], HQ.out⟩
      · have e1 : du = true := by rw [← hd]; clear hd; simp [*]
        clear hd
        go_wp2_with fail
        go_meet
        case rel => exact ⟨by rw [e1], HQ.out⟩
    · have e1 : du = true := by rw [← hd]; clear hd; simp [*]
      clear hd
      go_wp2_with fail
      go_meet
      case rel => exact ⟨by rw [e1], HQ.out⟩
  case rest =>
  obtain ⟨rfl, hcut⟩ := hcut
  have HE := Lib.hid hcut
  clear hcut
  rename World => ve
  clear HP ID2
  refine HK.out _ _ ?_
  clear HK K
  apply wp_seq_k
  intro K hK
  have HK := Lib.hid hK
  clear hK
  go_cut [] from 11 (fun wx => Blk.Bks w [(gn, (Ru.cells ⟨r.co, n1, a, b, l1, pr1, ex1, dn1, mx1, r.tl, r.tu, r.td⟩).toArray, 45), (gz, #[I 0, I 0, I 0, I 0, I 0, I 0, I 0, .bool false, .bool false, I 0, I 0, I 0], 45), (gc, c.cells.toArray, 107), (gr, r.cells.toArray, 45), (gp, p.cells.toArray, 24)] wx)
  case first =>
    have t_cho : ve.cell? ⟨gc, 5, none⟩ = some (.bool c.ho) := HE.out.cell 2 5 rfl rfl
    have t_rex : ve.cell? ⟨gr, 6, none⟩ = some (I r.ex) := HE.out.cell 3 6 rfl rfl
    have hx := HEX.out
    obtain ⟨ho, hho⟩ : ∃ x, c.ho = x := ⟨_, rfl⟩
    rw [hho] at hx t_cho
    cases du
    · have e1 : ex1 = r.ex := by rw [← hx]; simp
      clear hx
      go_wp2_with fail
      go_meet
      case rel => rw [e1]; exact HE.out
    cases ho
    · have e1 : ex1 = r.ex := by rw [← hx]; simp
      clear hx
      go_wp2_with fail
      go_meet
      case rel => rw [e1]; exact HE.out
    have e2 : ex1 = e1 := by rw [← hx]; simp
    clear hx
    have n_ex : ve.cell? ⟨gn, 6, none⟩ = some (I r.ex) := HE.out.cell 0 6 rfl rfl
    have f_ex : ve.frozen? ⟨gn, 6, none⟩ = false := HE.out.frozen 0 6 rfl
    go_wp2_with (go_at_call 70; with_reducible refine (O3.out _).mono ?_; rintro e w' ⟨rfl, rfl⟩)
    have hput := HE.out.set 0 6 rfl (I e1)
    rw [show Array.setIfInBounds _ 6 (I e1) = (Ru.cells ⟨r.co, n1, a, b, l1, pr1, e1, dn1, mx1, r.tl, r.tu, r.td⟩).toArray from rfl] at hput
    simp only [List.set_cons_succ, List.set_cons_zero] at hput
    generalize World.setCell ve _ _ = vf at hput ⊢
    have HG := Lib.hid hput
    clear hput
    go_meet
    case rel => rw [e2]; exact HG.out
  case rest =>
  have HG := Lib.hid hcut
  clear hcut
  rename World => vg
  clear HE O3
  refine HK.out _ _ ?_
  clear HK K
  apply wp_seq_k
  intro K hK
  have HK := Lib.hid hK
  clear hK
  go_cut [] from 11 (fun wx => Blk.Bks w [(gn, (Ru.cells ⟨r.co, n1, a, b, l1, pr1, ex1, dn2, mx2, r.tl, r.tu, r.td⟩).toArray, 45), (gz, #[I 0, I 0, I 0, I 0, I 0, I 0, I 0, .bool false, .bool false, I 0, I 0, I 0], 45), (gc, c.cells.toArray, 107), (gr, r.cells.toArray, 45), (gp, p.cells.toArray, 24)] wx)
  case first =>
    have t_cho : vg.cell? ⟨gc, 5, none⟩ = some (.bool c.ho) := HG.out.cell 2 5 rfl rfl
    have hx := HN2.out
    have hy := HM2.out
    obtain ⟨ho, hho⟩ : ∃ x, c.ho = x := ⟨_, rfl⟩
    rw [hho] at hx hy t_cho
    cases du
    · have e1 : dn2 = dn1 := by rw [← hx]; simp
      have e2 : mx2 = mx1 := by rw [← hy]; simp
      clear hx hy
      go_wp2_with fail
      go_meet
      case rel => rw [e1, e2]; exact HG.out
    cases ho
    rotate_left
    · have e1 : dn2 = dn1 := by rw [← hx]; simp
      have e2 : mx2 = mx1 := by rw [← hy]; simp
      clear hx hy
      go_wp2_with fail
      go_meet
      case rel => rw [e1, e2]; exact HG.out
    have n_dn : vg.cell? ⟨gn, 7, none⟩ = some (.bool dn1) := HG.out.cell 0 7 rfl rfl
    have f_dn : vg.frozen? ⟨gn, 7, none⟩ = false := HG.out.frozen 0 7 rfl
    have n_mx : vg.cell? ⟨gn, 8, none⟩ = some (.bool mx1) := HG.out.cell 0 8 rfl rfl
    have f_mx : vg.frozen? ⟨gn, 8, none⟩ = false := HG.out.frozen 0 8 rfl
    have n_lf : vg.cell? ⟨gn, 4, none⟩ = some (I l1) := HG.out.cell 0 4 rfl rfl
    by_cases h1 : 0 < l1
    · have e1 : dn2 = true := by rw [← hx]; simp
      have e2 : mx2 = lng := by rw [← hy]; simp [h1]
      clear hx hy
      go_wp2_with fail
      have hput := (HG.out.set 0 7 rfl (.bool true)).set 0 8 rfl (.bool lng)
      rw [show Array.setIfInBounds (Array.setIfInBounds _ 7 (.bool true)) 8 (.bool lng) = (Ru.cells ⟨r.co, n1, a, b, l1, pr1, ex1, true, lng, r.tl, r.tu, r.td⟩).toArray from rfl] at hput
      simp only [List.set_cons_succ, List.set_cons_zero] at hput
      generalize World.setCell (World.setCell vg _ _) _ _ = vh at hput ⊢
      go_meet
      case rel => rw [e1, e2]; exact hput
    · have e1 : dn2 = true := by rw [← hx]; simp
      have e2 : mx2 = false := by rw [← hy]; simp [h1]
      clear hx hy
      go_wp2_with fail
      have hput := (HG.out.set 0 7 rfl (.bool true)).set 0 8 rfl (.bool false)
      rw [show Array.setIfInBounds (Array.setIfInBounds _ 7 (.bool true)) 8 (.bool false) = (Ru.cells ⟨r.co, n1, a, b, l1, pr1, ex1, true, false, r.tl, r.tu, r.td⟩).toArray from rfl] at hput
      simp only [List.set_cons_succ, List.set_cons_zero] at hput
      generalize World.setCell (World.setCell vg _ _) _ _ = vh at hput ⊢
      go_meet
      case rel => rw [e1, e2]; exact hput
  case rest =>
  have HI := Lib.hid hcut
  clear hcut
  rename World => vi
  clear HG
  refine HK.out _ _ ?_
  clear HK K
  go_wp2_with (first | (refine Row.wpList_load_g 45 _ rfl (by first | rfl | (go_simp; done) | fail) ⟨gn, 0, none⟩ rfl (Ru.cells ⟨r.co, n1, a, b, l1, pr1, ex1, dn2, mx2, r.tl, r.tu, r.td⟩) _ (seg HI.out 0 0 rfl _ rfl) Try.underlying45 rfl infoRu ?_) | (refine wpList_store_row rfl 45 _ _ rfl gz (Ru.cells ⟨r.co, n1, a, b, l1, pr1, ex1, dn2, mx2, r.tl, r.tu, r.td⟩).toArray rfl rfl 45 _ (HI.out.at 1 rfl) infoRu rfl (one_ru _) ?_))
  have hput := HI.out.put 1 rfl (Ru.cells ⟨r.co, n1, a, b, l1, pr1, ex1, dn2, mx2, r.tl, r.tu, r.td⟩).toArray
  simp only [List.set_cons_succ, List.set_cons_zero] at hput
  generalize World.setRow vi gz _ = vz at hput ⊢
  have HZ := Lib.hid hput
  clear hput
  (try go_wp2_with fail)
  (try simp only [Exit.inBlock, Exit.then])
  refine bodyPost_ret (v := .tuple #[.agg (Ru.cells ⟨r.co, n1, a, b, l1, pr1, ex1, dn2, mx2, r.tl, r.tu, r.td⟩).toArray, .bool du]) ?_ rfl ⟨rfl, HZ.out.bel⟩
  exact Where.results_row_tmp (fn := Try.f69) (p := 6) (u := 7) (ty := 45) rfl _ _ gz 45 _ (0, 0) _ rfl (HZ.out.at 1 rfl) Try.underlying45 rfl infoRu
end Ru
end Go.Proofs.Ytjgpljnbeolapaa
