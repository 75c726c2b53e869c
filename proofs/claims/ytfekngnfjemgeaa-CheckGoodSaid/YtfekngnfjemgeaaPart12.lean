/- 7 texts in one file, in build order. -/
import Derived.Test.YtfekngnfjemgeaaRows
import Derived.Test.YtfekngnfjemgeaaPart07
import Derived.Test.YtfekngnfjemgeaaPart08
import Derived.Test.YtfekngnfjemgeaaPart10
import Derived.Test.YtfekngnfjemgeaaPart11
import Derived.Deep.Cut
import Derived.LoopTactic
import Derived.Great.BuildSlice
import Derived.Test.YtfekngnfjemgeaaPart03
import Derived.Test.YtfekngnfjemgeaaPart04
import Derived.Test.YtfekngnfjemgeaaPart05
set_option linter.unusedVariables false
set_option linter.unusedSimpArgs false
set_option linter.unusedSectionVars false
/- The table by numbers: plain data, and the box in which it is built. -/
namespace Go.Proofs.Ytfekngnfjemgeaa.CodeAt
open Go
def firstR : Code → Option Nat
  | .region i _ _ => some i
  | .seq a b => (firstR a).or (firstR b)
  | .cond _ a b => (firstR a).or (firstR b)
  | .block _ b => firstR b
  | .loop b => firstR b
  | .scope b => firstR b
  | _ => none
def findL (id : Nat) : Code → Option Code
  | .seq a b => (findL id a).or (findL id b)
  | .cond _ a b => (findL id a).or (findL id b)
  | .block _ b => findL id b
  | .loop b => if firstR b = some id then some (.loop b) else findL id b
  | .scope b => findL id b
  | _ => none
/-- The loop of a function that begins with region number id. -/
def lp (id : Nat) (f : Func) : Code := ((f.body.bind (findL id)).getD .skip)
end Go.Proofs.Ytfekngnfjemgeaa.CodeAt
namespace Go.Proofs.Ytfekngnfjemgeaa.GenT
open Go Go.RowKit
open Tab Gath GenG Clone PlaceM
open RefS (num num_range)
set_option linter.unusedVariables false
set_option linter.unusedSimpArgs false
/-- The first n of eight are made, the others are as they were. -/
def upd {α : Type} (f : Nat → α) (z : α) (n : Nat) : List α := (List.range 8).map fun i => if i < n then f i else z
theorem upd_len {α : Type} (f : Nat → α) (z : α) (n : Nat) : (upd f z n).length = 8 := by simp [upd]
theorem upd_succ {α : Type} (f : Nat → α) (z : α) (n : Nat) : (upd f z n).set n (f n) = upd f z (n + 1) := by
  apply List.ext_getElem?
  intro j
  unfold upd
  rw [List.getElem?_set]
  simp only [List.length_map, List.length_range, List.getElem?_map]
  by_cases hj : j < 8
  · rw [List.getElem?_range hj]
    simp only [Option.map_some]
    by_cases e : n = j
    · subst e; rw [if_pos rfl, if_pos hj, if_pos (by omega)]
    · rw [if_neg e]; congr 1
      by_cases h2 : j < n
      · rw [if_pos h2, if_pos (by omega)]
      · rw [if_neg h2, if_neg (by omega)]
  · have hn : (List.range 8)[j]? = none := by rw [List.getElem?_eq_none]; simp; omega
    rw [hn]
    simp only [Option.map_none]
    by_cases e : n = j
    · rw [if_pos e, if_neg (by omega)]
    · rw [if_neg e]
theorem upd_zero {α : Type} (f : Nat → α) (z : α) : upd f z 0 = [z, z, z, z, z, z, z, z] := rfl
theorem upd_at {α : Type} (f : Nat → α) (z : α) (n j : Nat) (h : j < 8) : (upd f z n)[j]? = some (if j < n then f j else z) := by
  unfold upd; rw [List.getElem?_map, List.getElem?_range h]; rfl
/-- One pair of phases: do they conflict? -/
def cset (L : List Int) (T : Tab) (p q : Nat) (C : List Int) : List Int :=
  if beside T p q = false ∧ num L (110 + 8 * p + q) 9 ≠ 1 then (C.set p (SetM.withN (C.getD p 0) q : Nat)).set q (SetM.withN ((C.set p (SetM.withN (C.getD p 0) q : Nat)).getD q 0) p : Nat) else C
def crow (L : List Int) (T : Tab) (p : Nat) (C : List Int) : Nat → List Int
  | 0 => C
  | q + 1 => cset L T p q (crow L T p C q)
def call (L : List Int) (T : Tab) (C : List Int) : Nat → List Int
  | 0 => C
  | p + 1 => crow L T p (call L T C p) p
theorem cset_len (L : List Int) (T : Tab) (p q : Nat) (C : List Int) : (cset L T p q C).length = C.length := by unfold cset; split <;> simp
theorem crow_len (L : List Int) (T : Tab) (p : Nat) (C : List Int) : ∀ q, (crow L T p C q).length = C.length
  | 0 => rfl
  | q + 1 => by rw [crow, cset_len, crow_len L T p C q]
theorem call_len (L : List Int) (T : Tab) (C : List Int) : ∀ p, (call L T C p).length = C.length
  | 0 => rfl
  | p + 1 => by rw [call, crow_len, call_len L T C p]
/-- A list that is made from its number k down to 1. -/
def down {α : Type} (f : Nat → α) (k : Nat) : Nat → List α
  | 0 => []
  | j + 1 => down f k j ++ [f (k - j)]
theorem down_len {α : Type} (f : Nat → α) (k : Nat) : ∀ j, (down f k j).length = j
  | 0 => rfl
  | j + 1 => by rw [down, List.length_append, down_len f k j]; rfl
def genBs (L : List Int) (i n : Nat) : Bs := ⟨max 1 (bits .and .i64 (num L (330 + 2 * i) 256) (GenR.maskV n)), 1 + num L (331 + 2 * i) 30⟩
def maxW (T : Tab) : Nat → Int
  | 0 => 0
  | p + 1 => max (maxW T p) (WaitS.waitS T p)
def zTab : Tab := ⟨[zPh, zPh, zPh, zPh, zPh, zPh, zPh, zPh], [], [0, 0, 0, 0, 0, 0, 0, 0], [], [], [], 0, 0, 0, 0, 0, [0, 0, 0, 0, 0, 0, 0, 0], 0, 0⟩
def tab1 (L : List Int) : Tab := { zTab with groups := genGs L }
def tabP (L : List Int) (n : Nat) : Tab := { tab1 L with phases := upd (fun p => GenP.genPh L (10 + 12 * p)) zPh n, flash := upd (fun _ => 1) 0 n }
def tabC (L : List Int) : Tab := { tabP L (genN L) with conflict := call L (tab1 L) [0, 0, 0, 0, 0, 0, 0, 0] (genN L) }
def tabF (L : List Int) : Tab := if num L 174 ((genN L : Int) + 1) < genN L then { tabC L with flash := (tabC L).flash.set (num L 174 ((genN L : Int) + 1)).toNat 2 } else tabC L
def tabD (L : List Int) (j : Nat) : Tab := { tabF L with dets := down (fun i => GenD.genDet L (180 + 8 * i) (genN L)) (num L 175 9).toNat j }
def tabR (L : List Int) (j : Nat) : Tab := { tabD L (num L 175 9).toNat with rails := down (fun i => GenR.genRl (tab1 L) L (260 + 16 * i) (genN L)) (num L 176 4 % 3).toNat j }
def tabB (L : List Int) (j : Nat) : Tab := { tabR L (num L 176 4 % 3).toNat with buses := down (fun i => genBs L i (genN L)) (num L 177 3).toNat j }
def tabS (L : List Int) : Tab := { tabB L (num L 177 3).toNat with extend := num L 178 12, budget := num L 179 40, start := num L 180 8, revert := num L 181 8, least := num L 182 12, share := num L 183 4 }
/-- The table by the numbers L. -/
def genTab (L : List Int) : Tab := if (num L 176 4 % 3).toNat = 0 then tabS L else { tabS L with window := maxW (tabS L) (genN L) }
theorem beside_same {T U : Tab} (h : T.groups = U.groups) (p q : Int) : PlaceM.beside T p q = PlaceM.beside U p q := by
  unfold PlaceM.beside; unfold where_; unfold PlaceM.spots; rw [h]

/-! ### How a table's cells change -/
theorem cells_phase {T : Tab} (hd : Hd) (h8 : T.phases.length = 8) (p : Nat) (hp : p < 8) (x : Ph) : (T.cells hd).take (13 * p) ++ x.cells ++ (T.cells hd).drop (13 * p + 13) = { T with phases := T.phases.set p x }.cells hd := by
  obtain ⟨a0, a1, a2, a3, a4, a5, a6, a7, e⟩ := eight h8
  obtain ⟨phases, groups, conflict, dets, rails, buses, extend, budget, start, revert, least, flash, window, share⟩ := T
  simp only at e
  subst e
  match p, hp with
  | 0, _ | 1, _ | 2, _ | 3, _ | 4, _ | 5, _ | 6, _ | 7, _ => rfl
theorem cells_cut {T : Tab} (hd : Hd) (h8 : T.phases.length = 8) (hc : T.conflict.length = 8) (hf : T.flash.length = 8) : (T.cells hd).length = 131 := by
  obtain ⟨a0, a1, a2, a3, a4, a5, a6, a7, e⟩ := eight h8
  obtain ⟨c0, c1, c2, c3, c4, c5, c6, c7, e2⟩ := eight hc
  obtain ⟨f0, f1, f2, f3, f4, f5, f6, f7, e3⟩ := eight hf
  obtain ⟨phases, groups, conflict, dets, rails, buses, extend, budget, start, revert, least, flash, window, share⟩ := T
  simp only at e e2 e3
  subst e e2 e3
  rfl
theorem cells_conflict {T : Tab} (hd : Hd) (h8 : T.phases.length = 8) (hc : T.conflict.length = 8) (p : Nat) (hp : p < 8) (x : Int) : (T.cells hd).set (105 + p) (I x) = { T with conflict := T.conflict.set p x }.cells hd := by
  obtain ⟨a0, a1, a2, a3, a4, a5, a6, a7, e⟩ := eight h8
  obtain ⟨c0, c1, c2, c3, c4, c5, c6, c7, e2⟩ := eight hc
  obtain ⟨phases, groups, conflict, dets, rails, buses, extend, budget, start, revert, least, flash, window, share⟩ := T
  simp only at e e2
  subst e e2
  match p, hp with
  | 0, _ | 1, _ | 2, _ | 3, _ | 4, _ | 5, _ | 6, _ | 7, _ => rfl
theorem cells_flash {T : Tab} (hd : Hd) (h8 : T.phases.length = 8) (hc : T.conflict.length = 8) (hf : T.flash.length = 8) (p : Nat) (hp : p < 8) (x : Int) : (T.cells hd).set (121 + p) (I x) = { T with flash := T.flash.set p x }.cells hd := by
  obtain ⟨a0, a1, a2, a3, a4, a5, a6, a7, e⟩ := eight h8
  obtain ⟨c0, c1, c2, c3, c4, c5, c6, c7, e2⟩ := eight hc
  obtain ⟨f0, f1, f2, f3, f4, f5, f6, f7, e3⟩ := eight hf
  obtain ⟨phases, groups, conflict, dets, rails, buses, extend, budget, start, revert, least, flash, window, share⟩ := T
  simp only at e e2 e3
  subst e e2 e3
  match p, hp with
  | 0, _ | 1, _ | 2, _ | 3, _ | 4, _ | 5, _ | 6, _ | 7, _ => rfl
theorem cells_extend {T : Tab} (hd : Hd) (h8 : T.phases.length = 8) (hc : T.conflict.length = 8) (x : Int) : (T.cells hd).set 116 (I x) = { T with extend := x }.cells hd := by
  obtain ⟨a0, a1, a2, a3, a4, a5, a6, a7, e⟩ := eight h8
  obtain ⟨c0, c1, c2, c3, c4, c5, c6, c7, e2⟩ := eight hc
  obtain ⟨phases, groups, conflict, dets, rails, buses, extend, budget, start, revert, least, flash, window, share⟩ := T
  simp only at e e2
  subst e e2
  rfl
theorem cells_budget {T : Tab} (hd : Hd) (h8 : T.phases.length = 8) (hc : T.conflict.length = 8) (x : Int) : (T.cells hd).set 117 (I x) = { T with budget := x }.cells hd := by
  obtain ⟨a0, a1, a2, a3, a4, a5, a6, a7, e⟩ := eight h8
  obtain ⟨c0, c1, c2, c3, c4, c5, c6, c7, e2⟩ := eight hc
  obtain ⟨phases, groups, conflict, dets, rails, buses, extend, budget, start, revert, least, flash, window, share⟩ := T
  simp only at e e2
  subst e e2
  rfl
theorem cells_start {T : Tab} (hd : Hd) (h8 : T.phases.length = 8) (hc : T.conflict.length = 8) (x : Int) : (T.cells hd).set 118 (I x) = { T with start := x }.cells hd := by
  obtain ⟨a0, a1, a2, a3, a4, a5, a6, a7, e⟩ := eight h8
  obtain ⟨c0, c1, c2, c3, c4, c5, c6, c7, e2⟩ := eight hc
  obtain ⟨phases, groups, conflict, dets, rails, buses, extend, budget, start, revert, least, flash, window, share⟩ := T
  simp only at e e2
  subst e e2
  rfl
theorem cells_revert {T : Tab} (hd : Hd) (h8 : T.phases.length = 8) (hc : T.conflict.length = 8) (x : Int) : (T.cells hd).set 119 (I x) = { T with revert := x }.cells hd := by
  obtain ⟨a0, a1, a2, a3, a4, a5, a6, a7, e⟩ := eight h8
  obtain ⟨c0, c1, c2, c3, c4, c5, c6, c7, e2⟩ := eight hc
  obtain ⟨phases, groups, conflict, dets, rails, buses, extend, budget, start, revert, least, flash, window, share⟩ := T
  simp only at e e2
  subst e e2
  rfl
theorem cells_least {T : Tab} (hd : Hd) (h8 : T.phases.length = 8) (hc : T.conflict.length = 8) (x : Int) : (T.cells hd).set 120 (I x) = { T with least := x }.cells hd := by
  obtain ⟨a0, a1, a2, a3, a4, a5, a6, a7, e⟩ := eight h8
  obtain ⟨c0, c1, c2, c3, c4, c5, c6, c7, e2⟩ := eight hc
  obtain ⟨phases, groups, conflict, dets, rails, buses, extend, budget, start, revert, least, flash, window, share⟩ := T
  simp only at e e2
  subst e e2
  rfl
theorem cells_window {T : Tab} (hd : Hd) (h8 : T.phases.length = 8) (hc : T.conflict.length = 8) (hf : T.flash.length = 8) (x : Int) : (T.cells hd).set 129 (I x) = { T with window := x }.cells hd := by
  obtain ⟨a0, a1, a2, a3, a4, a5, a6, a7, e⟩ := eight h8
  obtain ⟨c0, c1, c2, c3, c4, c5, c6, c7, e2⟩ := eight hc
  obtain ⟨f0, f1, f2, f3, f4, f5, f6, f7, e3⟩ := eight hf
  obtain ⟨phases, groups, conflict, dets, rails, buses, extend, budget, start, revert, least, flash, window, share⟩ := T
  simp only at e e2 e3
  subst e e2 e3
  rfl
theorem cells_share {T : Tab} (hd : Hd) (h8 : T.phases.length = 8) (hc : T.conflict.length = 8) (hf : T.flash.length = 8) (x : Int) : (T.cells hd).set 130 (I x) = { T with share := x }.cells hd := by
  obtain ⟨a0, a1, a2, a3, a4, a5, a6, a7, e⟩ := eight h8
  obtain ⟨c0, c1, c2, c3, c4, c5, c6, c7, e2⟩ := eight hc
  obtain ⟨f0, f1, f2, f3, f4, f5, f6, f7, e3⟩ := eight hf
  obtain ⟨phases, groups, conflict, dets, rails, buses, extend, budget, start, revert, least, flash, window, share⟩ := T
  simp only at e e2 e3
  subst e e2 e3
  rfl
theorem cells_dets {T : Tab} (hd : Hd) (h8 : T.phases.length = 8) (hc : T.conflict.length = 8) (s : Sl) (l : List Det) : (T.cells hd).set 113 (s.val l.length) = { T with dets := l }.cells ⟨hd.g, s, hd.r, hd.b⟩ := by
  obtain ⟨a0, a1, a2, a3, a4, a5, a6, a7, e⟩ := eight h8
  obtain ⟨c0, c1, c2, c3, c4, c5, c6, c7, e2⟩ := eight hc
  obtain ⟨phases, groups, conflict, dets, rails, buses, extend, budget, start, revert, least, flash, window, share⟩ := T
  simp only at e e2
  subst e e2
  rfl
theorem cells_rails {T : Tab} (hd : Hd) (h8 : T.phases.length = 8) (hc : T.conflict.length = 8) (s : Sl) (l : List Rl) : (T.cells hd).set 114 (s.val l.length) = { T with rails := l }.cells ⟨hd.g, hd.d, s, hd.b⟩ := by
  obtain ⟨a0, a1, a2, a3, a4, a5, a6, a7, e⟩ := eight h8
  obtain ⟨c0, c1, c2, c3, c4, c5, c6, c7, e2⟩ := eight hc
  obtain ⟨phases, groups, conflict, dets, rails, buses, extend, budget, start, revert, least, flash, window, share⟩ := T
  simp only at e e2
  subst e e2
  rfl
theorem cells_buses {T : Tab} (hd : Hd) (h8 : T.phases.length = 8) (hc : T.conflict.length = 8) (s : Sl) (l : List Bs) : (T.cells hd).set 115 (s.val l.length) = { T with buses := l }.cells ⟨hd.g, hd.d, hd.r, s⟩ := by
  obtain ⟨a0, a1, a2, a3, a4, a5, a6, a7, e⟩ := eight h8
  obtain ⟨c0, c1, c2, c3, c4, c5, c6, c7, e2⟩ := eight hc
  obtain ⟨phases, groups, conflict, dets, rails, buses, extend, budget, start, revert, least, flash, window, share⟩ := T
  simp only at e e2
  subst e e2
  rfl
theorem cells_groups {T : Tab} (hd : Hd) (h8 : T.phases.length = 8) (s : Sl) (l : List (List Int × List Int)) : (T.cells hd).set 104 (s.val l.length) = { T with groups := l }.cells ⟨s, hd.d, hd.r, hd.b⟩ := by
  obtain ⟨a0, a1, a2, a3, a4, a5, a6, a7, e⟩ := eight h8
  obtain ⟨phases, groups, conflict, dets, rails, buses, extend, budget, start, revert, least, flash, window, share⟩ := T
  simp only at e
  subst e
  rfl
/-! ### The box -/
def KT (w : World) (s : Sl) (t : TypeId) : Prop := ∀ x, s.a = some x → ∃ cs : Array Value, w.heap[x.block]? = some (.cells cs t (0, 0))
theorem KT.grown {w w' : World} {s : Sl} {t : TypeId} {row : Option Nat} (h : KT w s t) (hg : w.grownBy w' row) (hne : ∀ x, s.a = some x → some x.block ≠ row) : KT w' s t := fun x hx => by
  obtain ⟨cs, hc⟩ := h x hx
  exact ⟨cs, (hg.block _ (Array.getElem?_eq_some_iff.1 hc).1 (hne x hx)).trans hc⟩
theorem KT.ne {w : World} {s : Sl} {b : Nat} {cs : Array Value} {t t' : TypeId} (h : KT w s t) (hb : w.heap[b]? = some (.cells cs t' (0, 0))) (ht : t' ≠ t) : ∀ x, s.a = some x → x.block ≠ b := by
  intro x hx e
  obtain ⟨ds, hc⟩ := h x hx
  rw [e, hb] at hc
  simp at hc
  exact ht hc.2
theorem row_grown {α : Type} {n : Nat} {enc : α → List Value} {w w' : World} {s : Sl} {l : List α} {row : Option Nat} (h : RowOf n enc w s l) (hg : w.grownBy w' row) (hne : ∀ x, s.a = some x → some x.block ≠ row) : RowOf n enc w' s l := by
  rcases h with h | ⟨x, h1, h2, h3, h4⟩
  · exact .inl h
  · exact .inr ⟨x, h1, h2, h3, fun i v hv j u hu => hg.cell (h4 i v hv j u hu) (by rw [add_block, add_block]; exact hne x h1)⟩
/-- The groups of a table, in blocks of their types. -/
def GrT (w : World) (s : Sl) (l : List (List Int × List Int)) : Prop := ∃ gs : List Gr, gs.map Gr.data = l ∧ RowOf 2 Gr.cells w s gs ∧ KT w s 36 ∧ ∀ g ∈ gs, RowI w g.s0 g.r0 ∧ RowI w g.s1 g.r1
theorem GrT.grown {w w' : World} {s : Sl} {l : List (List Int × List Int)} {row : Option Nat} (h : GrT w s l) (hg : w.grownBy w' row) (hr : ∀ m, row = some m → ∃ cs t, w.heap[m]? = some (.cells cs t (0, 0)) ∧ t ≠ 36 ∧ t ≠ 3) : GrT w' s l := by
  obtain ⟨gs, h1, h2, h3, h4⟩ := h
  have hI : ∀ (s : Sl) (l : List Int), RowI w s l → RowI w' s l := fun s l hs => hs.grown hg (fun x hx e => by
    obtain ⟨cs, t, hb, _, ht⟩ := hr _ e.symm
    exact hs.ne hb ht x hx rfl)
  have hn : ∀ x, s.a = some x → some x.block ≠ row := fun x hx e => by
    obtain ⟨cs, t, hb, ht, _⟩ := hr _ e.symm
    exact h3.ne hb ht x hx rfl
  exact ⟨gs, h1, row_grown h2 hg hn, h3.grown hg hn, fun g hgm => ⟨hI _ _ (h4 g hgm).1, hI _ _ (h4 g hgm).2⟩⟩
theorem GrT.lie {w : World} {s : Sl} {l : List (List Int × List Int)} (h : GrT w s l) : ∃ gs : List Gr, gs.map Gr.data = l ∧ GroupsLie w s gs := by
  obtain ⟨gs, h1, h2, h3, h4⟩ := h
  exact ⟨gs, h1, h2, fun g hg => ⟨(h4 g hg).1.1, (h4 g hg).2.1⟩⟩
def zHd : Hd := ⟨⟨none, 0⟩, ⟨none, 0⟩, ⟨none, 0⟩, ⟨none, 0⟩⟩
/-- The generator's two boxes: the result's, and the table that is built. -/
structure Bx (w : World) (hd : Hd) (T : Tab) (W : World) : Prop where
  bel : Below w.heap.size w W
  res : W.heap[w.heap.size]? = some (.cells (zTab.cells zHd).toArray 32 (0, 0))
  blk : W.heap[w.heap.size + 1]? = some (.cells (T.cells hd).toArray 32 (0, 0))
  ph : T.phases.length = 8
  cf : T.conflict.length = 8
  fl : T.flash.length = 8
  groups : GrT W hd.g T.groups
  dets : Owns Det.cells 7 w.heap.size W 39 (hd.d.val T.dets.length) T.dets
  rails : Owns Rl.cells 11 w.heap.size W 41 (hd.r.val T.rails.length) T.rails
  buses : Owns Bs.cells 2 w.heap.size W 43 (hd.b.val T.buses.length) T.buses
theorem own_is {α : Type} {enc : α → List Value} {n B : Nat} {w : World} {t : TypeId} {s : Sl} {l : List α} (henc : ∀ x, (enc x).length = n) (h : Owns enc n B w t (s.val l.length) l) : RowOf n enc w s l := by
  obtain ⟨s', e, r⟩ := Owns.row h henc
  obtain ⟨a, c⟩ := s
  obtain ⟨a', c'⟩ := s'
  simp only [Sl.val, Value.slice.injEq] at e
  obtain ⟨rfl, _, rfl⟩ := e
  exact r
theorem Bx.tab {w W : World} {hd : Hd} {T : Tab} (h : Bx w hd T W) : IsTab W hd T :=
  ⟨h.ph, h.cf, h.fl, h.groups.lie, own_is (fun _ => rfl) h.dets, own_is (fun _ => rfl) h.rails, own_is (fun _ => rfl) h.buses⟩
theorem Bx.size {w W : World} {hd : Hd} {T : Tab} (h : Bx w hd T W) : w.heap.size + 1 < W.heap.size := (Array.getElem?_eq_some_iff.1 h.blk).1
theorem Bx.step {w W W' : World} {hd : Hd} {T : Tab} (h : Bx w hd T W) (hb : Below W.heap.size W W') : Bx w hd T W' :=
  ⟨h.bel.trans (hb.mono h.bel.size), (hb.block _ (by have := h.size; omega)).trans h.res, (hb.block _ h.size).trans h.blk, h.ph, h.cf, h.fl, h.groups.grown (grown_below hb none) (fun m e => by cases e), h.dets.below hb, h.rails.below hb, h.buses.below hb⟩
/-- A block that is neither of the two boxes nor another type's is written. -/
theorem Bx.cell {w W : World} {hd : Hd} {T : Tab} (h : Bx w hd T W) (i : Nat) : W.cell? ⟨w.heap.size + 1, i, none⟩ = (T.cells hd)[i]? := by
  rw [cell_of_row _ _ _ _ _ _ h.blk]; simp
theorem Bx.frozen {w W : World} {hd : Hd} {T : Tab} (h : Bx w hd T W) (i : Nat) : W.frozen? ⟨w.heap.size + 1, i, none⟩ = false := frozen_of_row _ _ _ _ _ h.blk
/-- The table's box is written; its lists stay. -/
theorem Bx.write {w W W' : World} {hd : Hd} {T U : Tab} (h : Bx w hd T W) (hg : W.grownBy W' (some (w.heap.size + 1))) (hb : W'.heap[w.heap.size + 1]? = some (.cells (U.cells hd).toArray 32 (0, 0)))
    (h1 : U.phases.length = 8) (h2 : U.conflict.length = 8) (h3 : U.flash.length = 8) (e1 : U.groups = T.groups) (e2 : U.dets = T.dets) (e3 : U.rails = T.rails) (e4 : U.buses = T.buses) : Bx w hd U W' := by
  refine ⟨h.bel.grown hg h.bel.size (fun k hk => by cases hk; omega), ?_, hb, h1, h2, h3, ?_, ?_, ?_, ?_⟩
  · exact (hg.block _ (by have := h.size; omega) (fun e => by simp at e)).trans h.res
  · rw [e1]
    exact h.groups.grown hg (fun m e => by cases e; exact ⟨_, _, h.blk, by decide, by decide⟩)
  · rw [e2]; exact own_kept h.dets hg (fun m hm e => by cases e; exact own_ne h.dets h.blk (by decide) hm)
  · rw [e3]; exact own_kept h.rails hg (fun m hm e => by cases e; exact own_ne h.rails h.blk (by decide) hm)
  · rw [e4]; exact own_kept h.buses hg (fun m hm e => by cases e; exact own_ne h.buses h.blk (by decide) hm)
/-- One number of the table. -/
theorem Bx.set {w W : World} {hd : Hd} {T U : Tab} (h : Bx w hd T W) (i : Nat) (v : Value) (hc : (T.cells hd).set i v = U.cells hd)
    (h1 : U.phases.length = 8) (h2 : U.conflict.length = 8) (h3 : U.flash.length = 8) (e1 : U.groups = T.groups) (e2 : U.dets = T.dets) (e3 : U.rails = T.rails) (e4 : U.buses = T.buses) : Bx w hd U (W.setCell ⟨w.heap.size + 1, i, none⟩ v) :=
  h.write (grown_set _ _ _ _) (by rw [heap_setCell_same _ _ _ _ _ _ h.blk, ← hc]; simp) h1 h2 h3 e1 e2 e3 e4
theorem setRow_grown (W : World) (b : Nat) (cs : Array Value) (h : b < W.heap.size) : W.grownBy (W.setRow b cs) (some b) :=
  ⟨rfl, rfl, rfl, by simp [World.setRow], fun j _ hj => setRow_other _ _ _ _ (fun e => hj (by rw [e]))⟩
theorem Bx.put_dets {w W W' : World} {hd : Hd} {T : Tab} {v' : Value} (x : Det) (h : Bx w hd T W) (hg : W.grownBy W' (hd.d.val T.dets.length).ownBlock)
    (ho : W'.ownsRow w.heap.size 39 7 v' (T.dets.length + 1) (T.dets.flatMap Det.cells ++ x.cells)) :
    (W'.heap[w.heap.size + 1]? = some (.cells (T.cells hd).toArray 32 (0, 0))) ∧ ∃ a' c', v' = .slice a' (T.dets.length + 1) c' ∧ Bx w ⟨hd.g, ⟨a', c'⟩, hd.r, hd.b⟩ { T with dets := T.dets ++ [x] } (W'.setCell ⟨w.heap.size + 1, 113, none⟩ v') := by
  have hne : ∀ {b : Nat} {cs : Array Value}, W.heap[b]? = some (.cells cs 32 (0, 0)) → some b ≠ (hd.d.val T.dets.length).ownBlock := fun hb e => own_ne h.dets hb (by decide) e.symm
  have hbx := (hg.block _ h.size (hne h.blk)).trans h.blk
  have hrs := (hg.block _ (by have := h.size; omega) (hne h.res)).trans h.res
  have hO : Owns Det.cells 7 w.heap.size W' 39 v' (T.dets ++ [x]) := Owns.snoc ho
  obtain ⟨⟨a', c'⟩, hs, hr⟩ := Owns.row hO (fun _ => rfl)
  refine ⟨hbx, a', c', by rw [hs, List.length_append]; rfl, ?_⟩
  refine ⟨?_, ?_, ?_, h.ph, h.cf, h.fl, ?_, by rw [show Sl.val ⟨a', c'⟩ (T.dets ++ [x]).length = v' from by rw [hs]]; exact own_kept hO (grown_set _ _ _ _) (fun m hm e => by cases e; exact own_ne hO hbx (by decide) hm), own_kept (own_kept h.rails hg (fun m hm e => by obtain ⟨ds, hd2⟩ := own_type h.dets _ e; exact own_ne h.rails hd2 (by decide) hm)) (grown_set _ _ _ _) (fun m hm e => by cases e; exact own_ne (own_kept h.rails hg (fun m hm e => by obtain ⟨ds, hd2⟩ := own_type h.dets _ e; exact own_ne h.rails hd2 (by decide) hm)) hbx (by decide) hm), own_kept (own_kept h.buses hg (fun m hm e => by obtain ⟨ds, hd2⟩ := own_type h.dets _ e; exact own_ne h.buses hd2 (by decide) hm)) (grown_set _ _ _ _) (fun m hm e => by cases e; exact own_ne (own_kept h.buses hg (fun m hm e => by obtain ⟨ds, hd2⟩ := own_type h.dets _ e; exact own_ne h.buses hd2 (by decide) hm)) hbx (by decide) hm)⟩
  · exact (h.bel.grown hg h.bel.size (fun k hk => h.dets.blk k hk)).setCell (p := ⟨w.heap.size + 1, 113, none⟩) (by simp) v'
  · rw [heap_setCell_other _ _ _ _ (by simp)]; exact hrs
  · rw [heap_setCell_same _ _ _ _ _ _ hbx, ← cells_dets hd h.ph h.cf ⟨a', c'⟩ (T.dets ++ [x]), ← hs]; simp
  · exact (h.groups.grown hg (fun m e => by obtain ⟨ds, hd2⟩ := own_type h.dets _ e; exact ⟨ds, _, hd2, by decide, by decide⟩)).grown (grown_set _ _ _ _) (fun m e => by cases e; exact ⟨_, _, hbx, by decide, by decide⟩)
theorem Bx.put_rails {w W W' : World} {hd : Hd} {T : Tab} {v' : Value} (x : Rl) (h : Bx w hd T W) (hg : W.grownBy W' (hd.r.val T.rails.length).ownBlock)
    (ho : W'.ownsRow w.heap.size 41 11 v' (T.rails.length + 1) (T.rails.flatMap Rl.cells ++ x.cells)) :
    (W'.heap[w.heap.size + 1]? = some (.cells (T.cells hd).toArray 32 (0, 0))) ∧ ∃ a' c', v' = .slice a' (T.rails.length + 1) c' ∧ Bx w ⟨hd.g, hd.d, ⟨a', c'⟩, hd.b⟩ { T with rails := T.rails ++ [x] } (W'.setCell ⟨w.heap.size + 1, 114, none⟩ v') := by
  have hne : ∀ {b : Nat} {cs : Array Value}, W.heap[b]? = some (.cells cs 32 (0, 0)) → some b ≠ (hd.r.val T.rails.length).ownBlock := fun hb e => own_ne h.rails hb (by decide) e.symm
  have hbx := (hg.block _ h.size (hne h.blk)).trans h.blk
  have hrs := (hg.block _ (by have := h.size; omega) (hne h.res)).trans h.res
  have hO : Owns Rl.cells 11 w.heap.size W' 41 v' (T.rails ++ [x]) := Owns.snoc ho
  obtain ⟨⟨a', c'⟩, hs, hr⟩ := Owns.row hO (fun _ => rfl)
  refine ⟨hbx, a', c', by rw [hs, List.length_append]; rfl, ?_⟩
  refine ⟨?_, ?_, ?_, h.ph, h.cf, h.fl, ?_, own_kept (own_kept h.dets hg (fun m hm e => by obtain ⟨ds, hd2⟩ := own_type h.rails _ e; exact own_ne h.dets hd2 (by decide) hm)) (grown_set _ _ _ _) (fun m hm e => by cases e; exact own_ne (own_kept h.dets hg (fun m hm e => by obtain ⟨ds, hd2⟩ := own_type h.rails _ e; exact own_ne h.dets hd2 (by decide) hm)) hbx (by decide) hm), by rw [show Sl.val ⟨a', c'⟩ (T.rails ++ [x]).length = v' from by rw [hs]]; exact own_kept hO (grown_set _ _ _ _) (fun m hm e => by cases e; exact own_ne hO hbx (by decide) hm), own_kept (own_kept h.buses hg (fun m hm e => by obtain ⟨ds, hd2⟩ := own_type h.rails _ e; exact own_ne h.buses hd2 (by decide) hm)) (grown_set _ _ _ _) (fun m hm e => by cases e; exact own_ne (own_kept h.buses hg (fun m hm e => by obtain ⟨ds, hd2⟩ := own_type h.rails _ e; exact own_ne h.buses hd2 (by decide) hm)) hbx (by decide) hm)⟩
  · exact (h.bel.grown hg h.bel.size (fun k hk => h.rails.blk k hk)).setCell (p := ⟨w.heap.size + 1, 114, none⟩) (by simp) v'
  · rw [heap_setCell_other _ _ _ _ (by simp)]; exact hrs
  · rw [heap_setCell_same _ _ _ _ _ _ hbx, ← cells_rails hd h.ph h.cf ⟨a', c'⟩ (T.rails ++ [x]), ← hs]; simp
  · exact (h.groups.grown hg (fun m e => by obtain ⟨ds, hd2⟩ := own_type h.rails _ e; exact ⟨ds, _, hd2, by decide, by decide⟩)).grown (grown_set _ _ _ _) (fun m e => by cases e; exact ⟨_, _, hbx, by decide, by decide⟩)
theorem Bx.put_buses {w W W' : World} {hd : Hd} {T : Tab} {v' : Value} (x : Bs) (h : Bx w hd T W) (hg : W.grownBy W' (hd.b.val T.buses.length).ownBlock)
    (ho : W'.ownsRow w.heap.size 43 2 v' (T.buses.length + 1) (T.buses.flatMap Bs.cells ++ x.cells)) :
    (W'.heap[w.heap.size + 1]? = some (.cells (T.cells hd).toArray 32 (0, 0))) ∧ ∃ a' c', v' = .slice a' (T.buses.length + 1) c' ∧ Bx w ⟨hd.g, hd.d, hd.r, ⟨a', c'⟩⟩ { T with buses := T.buses ++ [x] } (W'.setCell ⟨w.heap.size + 1, 115, none⟩ v') := by
  have hne : ∀ {b : Nat} {cs : Array Value}, W.heap[b]? = some (.cells cs 32 (0, 0)) → some b ≠ (hd.b.val T.buses.length).ownBlock := fun hb e => own_ne h.buses hb (by decide) e.symm
  have hbx := (hg.block _ h.size (hne h.blk)).trans h.blk
  have hrs := (hg.block _ (by have := h.size; omega) (hne h.res)).trans h.res
  have hO : Owns Bs.cells 2 w.heap.size W' 43 v' (T.buses ++ [x]) := Owns.snoc ho
  obtain ⟨⟨a', c'⟩, hs, hr⟩ := Owns.row hO (fun _ => rfl)
  refine ⟨hbx, a', c', by rw [hs, List.length_append]; rfl, ?_⟩
  refine ⟨?_, ?_, ?_, h.ph, h.cf, h.fl, ?_, own_kept (own_kept h.dets hg (fun m hm e => by obtain ⟨ds, hd2⟩ := own_type h.buses _ e; exact own_ne h.dets hd2 (by decide) hm)) (grown_set _ _ _ _) (fun m hm e => by cases e; exact own_ne (own_kept h.dets hg (fun m hm e => by obtain ⟨ds, hd2⟩ := own_type h.buses _ e; exact own_ne h.dets hd2 (by decide) hm)) hbx (by decide) hm), own_kept (own_kept h.rails hg (fun m hm e => by obtain ⟨ds, hd2⟩ := own_type h.buses _ e; exact own_ne h.rails hd2 (by decide) hm)) (grown_set _ _ _ _) (fun m hm e => by cases e; exact own_ne (own_kept h.rails hg (fun m hm e => by obtain ⟨ds, hd2⟩ := own_type h.buses _ e; exact own_ne h.rails hd2 (by decide) hm)) hbx (by decide) hm), by rw [show Sl.val ⟨a', c'⟩ (T.buses ++ [x]).length = v' from by rw [hs]]; exact own_kept hO (grown_set _ _ _ _) (fun m hm e => by cases e; exact own_ne hO hbx (by decide) hm)⟩
  · exact (h.bel.grown hg h.bel.size (fun k hk => h.buses.blk k hk)).setCell (p := ⟨w.heap.size + 1, 115, none⟩) (by simp) v'
  · rw [heap_setCell_other _ _ _ _ (by simp)]; exact hrs
  · rw [heap_setCell_same _ _ _ _ _ _ hbx, ← cells_buses hd h.ph h.cf ⟨a', c'⟩ (T.buses ++ [x]), ← hs]; simp
  · exact (h.groups.grown hg (fun m e => by obtain ⟨ds, hd2⟩ := own_type h.buses _ e; exact ⟨ds, _, hd2, by decide, by decide⟩)).grown (grown_set _ _ _ _) (fun m e => by cases e; exact ⟨_, _, hbx, by decide, by decide⟩)
end Go.Proofs.Ytfekngnfjemgeaa.GenT
/- The table by numbers: what holds of it whatever the numbers; the box at the beginning and at the end. -/
namespace Go.Proofs.Ytfekngnfjemgeaa.GenT
open Go.ChangeShapes Go.WideShapes Go.ChangeAt Go.RowKit
open Tab Gath GenG Clone PlaceM CodeAt
open RefS (num num_range from_any)
set_option linter.unusedVariables false
set_option linter.unusedSimpArgs false
theorem cset_same {T U : Tab} (h : T.groups = U.groups) (L : List Int) (p q : Nat) (C : List Int) : cset L T p q C = cset L U p q C := by
  unfold cset; rw [beside_same h]
theorem crow_same {T U : Tab} (h : T.groups = U.groups) (L : List Int) (p : Nat) (C : List Int) : ∀ q, crow L T p C q = crow L U p C q
  | 0 => rfl
  | q + 1 => by rw [crow, crow, crow_same h L p C q, cset_same h]
theorem call_same {T U : Tab} (h : T.groups = U.groups) (L : List Int) (C : List Int) : ∀ p, call L T C p = call L U C p
  | 0 => rfl
  | p + 1 => by rw [call, call, call_same h L C p, crow_same h]
theorem genN_range (L : List Int) : genN L ≤ 8 := up_le L (genG L) (genG_range L).2 _ (Nat.le_refl _)
theorem upTo_pos (L : List Int) (G : Nat) (hG : G ≤ 3) : ∀ g, g < G → (upTo L G g).2 < (upTo L G (g + 1)).2 := fun g hg => by
  show (upTo L G g).2 < (upTo L G g).2 + n0 L G g (upTo L G g).2 + n1 L G g (upTo L G g).2
  have h0 : ∀ g, g < G → (upTo L G g).2 ≤ 4 * g ∧ (upTo L G g).2 ≤ lim G g - 1 := by
    intro g
    induction g with
    | zero => intro h; exact ⟨Nat.zero_le _, Nat.zero_le _⟩
    | succ k ih =>
      intro h
      have := ih (by omega)
      show (upTo L G k).2 + n0 L G k (upTo L G k).2 + n1 L G k (upTo L G k).2 ≤ 4 * (k + 1) ∧ (upTo L G k).2 + n0 L G k (upTo L G k).2 + n1 L G k (upTo L G k).2 ≤ lim G (k + 1) - 1
      have a := want0_le L k
      have b := want1_le L k (n0 L G k (upTo L G k).2)
      unfold n1
      have : n0 L G k (upTo L G k).2 ≤ want0 L k ∧ n0 L G k (upTo L G k).2 ≤ lim G k - (upTo L G k).2 := by unfold n0; omega
      unfold lim at *
      omega
  have h1 := (h0 g hg).2
  have hl : 1 ≤ lim G g - (upTo L G g).2 := by unfold lim at *; omega
  by_cases e : n0 L G g (upTo L G g).2 = 0
  · have hw : 1 ≤ want1 L g (n0 L G g (upTo L G g).2) := by
      rw [e]; unfold want1
      have := num_range L (2 + 2 * g) 3 (by omega)
      split <;> omega
    have : 1 ≤ n1 L G g (upTo L G g).2 := by unfold n1; rw [e] at hw ⊢; omega
    omega
  · omega
theorem genN_pos (L : List Int) : 1 ≤ genN L := by
  obtain ⟨h1, h3⟩ := genG_range L
  have := upTo_pos L (genG L) h3 (genG L - 1) (by omega)
  rw [show genG L - 1 + 1 = genG L by omega] at this
  show 1 ≤ (upTo L (genG L) (genG L)).2
  omega
theorem genGs_len (L : List Int) : (genGs L).length = genG L := up_len L _ _
theorem up_few (L : List Int) (G : Nat) : ∀ g, ∀ x ∈ (upTo L G g).1, x.1.length ≤ 2 ∧ x.2.length ≤ 2
  | 0 => fun x h => by simp [upTo] at h
  | g + 1 => fun x h => by
    rw [upTo] at h
    rcases List.mem_append.1 h with h | h
    · exact up_few L G g x h
    · obtain rfl : x = grpD L G g (upTo L G g).2 := by simpa using h
      have a := want0_le L g
      have b := want1_le L g (n0 L G g (upTo L G g).2)
      constructor
      · show (seg _ _).length ≤ 2
        rw [seg_len]; unfold n0; omega
      · show (seg _ _).length ≤ 2
        rw [seg_len]; unfold n1; omega
theorem tab1_few (L : List Int) : Few (tab1 L) := ⟨by show (genGs L).length ≤ 1000; rw [genGs_len]; have := (genG_range L).2; omega, fun x h => by have := up_few L _ _ x h; omega⟩
theorem tabF_groups (L : List Int) : (tabF L).groups = genGs L := by unfold tabF; split <;> rfl
theorem tabF_dets (L : List Int) : { tabF L with dets := [] } = tabF L := by unfold tabF; split <;> rfl
theorem tabD_rails (L : List Int) (k : Nat) : { tabD L k with rails := [] } = tabD L k := by unfold tabD tabF; split <;> rfl
theorem tabR_buses (L : List Int) (k : Nat) : { tabR L k with buses := [] } = tabR L k := by unfold tabR tabD tabF; split <;> rfl
theorem tabS_window (L : List Int) : { tabS L with window := 0 } = tabS L := by unfold tabS tabB tabR tabD tabF; split <;> rfl
theorem tabS_rails (L : List Int) : (tabS L).rails.length = (num L 176 4 % 3).toNat := down_len _ _ _
theorem tabS_groups (L : List Int) : (tabS L).groups = genGs L := tabF_groups L
theorem tabS_few (L : List Int) : Few (tabS L) := ⟨by rw [tabS_groups]; exact (tab1_few L).groups, by rw [tabS_groups]; exact (tab1_few L).rows⟩
theorem down_same {α : Type} {f g : Nat → α} (h : ∀ i, f i = g i) (k : Nat) : ∀ j, down f k j = down g k j
  | 0 => rfl
  | j + 1 => by rw [down, down, down_same h k j, h]
/-- The first of six numbers are laid. -/
def scal (T : Tab) (l : List Int) : Tab := { T with extend := l.getD 0 T.extend, budget := l.getD 1 T.budget, start := l.getD 2 T.start, revert := l.getD 3 T.revert, least := l.getD 4 T.least, share := l.getD 5 T.share }
theorem scal_set {w W : World} {hd : Hd} {T : Tab} {l : List Int} (h : Bx w hd (scal T l) W) (x : Int) (i k : Nat) (hk : l.length = k) (hi : (k = 0 ∧ i = 116) ∨ (k = 1 ∧ i = 117) ∨ (k = 2 ∧ i = 118) ∨ (k = 3 ∧ i = 119) ∨ (k = 4 ∧ i = 120) ∨ (k = 5 ∧ i = 130)) :
    (∃ v, W.cell? ⟨w.heap.size + 1, i, none⟩ = some (I v)) ∧ W.frozen? ⟨w.heap.size + 1, i, none⟩ = false ∧ Bx w hd (scal T (l ++ [x])) (W.setCell ⟨w.heap.size + 1, i, none⟩ (I x)) := by
  refine ⟨?_, h.frozen i, ?_⟩
  · rw [h.cell, ← List.getElem?_toArray]
    rcases hi with ⟨rfl, rfl⟩ | ⟨rfl, rfl⟩ | ⟨rfl, rfl⟩ | ⟨rfl, rfl⟩ | ⟨rfl, rfl⟩ | ⟨rfl, rfl⟩
    · exact ⟨_, (cells_ok h.tab).extend⟩
    · exact ⟨_, (cells_ok h.tab).budget⟩
    · exact ⟨_, (cells_ok h.tab).start⟩
    · exact ⟨_, (cells_ok h.tab).revert⟩
    · exact ⟨_, (cells_ok h.tab).least⟩
    · exact ⟨_, (cells_ok h.tab).share⟩
  · rcases hi with ⟨rfl, rfl⟩ | ⟨rfl, rfl⟩ | ⟨rfl, rfl⟩ | ⟨rfl, rfl⟩ | ⟨rfl, rfl⟩ | ⟨rfl, rfl⟩
    · match l, hk with
      | [], _ => exact h.set 116 (I x) (cells_extend hd h.ph h.cf x) h.ph h.cf h.fl rfl rfl rfl rfl
    · match l, hk with
      | [_], _ => exact h.set 117 (I x) (cells_budget hd h.ph h.cf x) h.ph h.cf h.fl rfl rfl rfl rfl
    · match l, hk with
      | [_, _], _ => exact h.set 118 (I x) (cells_start hd h.ph h.cf x) h.ph h.cf h.fl rfl rfl rfl rfl
    · match l, hk with
      | [_, _, _], _ => exact h.set 119 (I x) (cells_revert hd h.ph h.cf x) h.ph h.cf h.fl rfl rfl rfl rfl
    · match l, hk with
      | [_, _, _, _], _ => exact h.set 120 (I x) (cells_least hd h.ph h.cf x) h.ph h.cf h.fl rfl rfl rfl rfl
    · match l, hk with
      | [_, _, _, _, _], _ => exact h.set 130 (I x) (cells_share hd h.ph h.cf h.fl x) h.ph h.cf h.fl rfl rfl rfl rfl
theorem scal_nil (T : Tab) : scal T [] = T := rfl
theorem infoTz : (Try.prog.info? 32).map (fun i => (i.zero, i.size)) = some (some (.agg (zTab.cells zHd).toArray), 131) := by kernel_rfl
/-- Behind rows: the box. -/
theorem Bx.first {w W : World} {L : List Int} {ga : Option Addr} {gc : Nat} {gs : List Gr} {W0 : World} (hW : Below w.heap.size w W0) (hs : W0.heap.size = w.heap.size + 2) (h0 : W0.heap[w.heap.size]? = some (.cells (zTab.cells zHd).toArray 32 (0, 0)))
    (hd : gs.map Gr.data = genGs L) (h : GS W0 (w.heap.size + 1) (zTab.cells zHd) ga gc (genG L) gs W) : Bx w ⟨⟨ga, gc⟩, ⟨none, 0⟩, ⟨none, 0⟩, ⟨none, 0⟩⟩ (tab1 L) W := by
  refine ⟨⟨h.gb.os.trans hW.os, h.gb.tape.trans hW.tape, h.gb.output.trans hW.output, by have := h.gb.size; omega, fun j hj => (h.gb.block j (by omega) (fun e => by simp at e; omega)).trans (hW.block j hj)⟩, (h.gb.block _ (by omega) (fun e => by simp at e)).trans h0, ?_, rfl, rfl, rfl, ?_, Owns.nil, Owns.nil, Owns.nil⟩
  · rw [h.tbk]
    have := cells_groups (T := zTab) zHd rfl ⟨ga, gc⟩ (genGs L)
    rw [genGs_len] at this
    rw [show (Value.slice ga (genG L) gc) = (Sl.val ⟨ga, gc⟩ (genG L)) from rfl, this]
    rfl
  · have hO : Owns Gr.cells 2 W0.heap.size W 36 (Sl.val ⟨ga, gc⟩ gs.length) gs := by rw [h.len]; exact h.own
    refine ⟨gs, hd, own_is (fun _ => rfl) hO, fun x hx => ?_, h.rows⟩
    obtain rfl : ga = some x := hx
    rcases hO.2 with ⟨e, _⟩ | ⟨g, cp, cur, e, h1, h2, _⟩
    · simp [Sl.val] at e
    · simp [Sl.val] at e
      obtain ⟨rfl, _⟩ := e
      exact ⟨cur, h2⟩
theorem Bx.store_res {w W : World} {hd : Hd} {T : Tab} (h : Bx w hd T W) : ∃ W', Sem.run Try.prog (storeCells ⟨w.heap.size, 0, none⟩ (T.cells hd)) W = .ok () W' ∧ W'.heap[w.heap.size]? = some (.cells (T.cells hd).toArray 32 (0, 0)) ∧ IsTab W' hd T ∧ Below w.heap.size w W' := by
  have hl := cells_cut hd h.ph h.cf h.fl
  have hr := run_storeCells_at Try.prog w.heap.size 0 32 (T.cells hd) 0 (zTab.cells zHd).toArray W h.res (by simp [hl]; exact Nat.le_refl 131) (fun v hv => (Array.all_eq_true_iff_forall_mem.1 (cells_ok h.tab).one) v (by simpa using hv))
  simp only [Nat.add_zero] at hr
  have e : ((zTab.cells zHd).toArray.toList.take 0 ++ T.cells hd ++ (zTab.cells zHd).toArray.toList.drop (0 + (T.cells hd).length)).toArray = (T.cells hd).toArray := by
    rw [List.drop_of_length_le (by rw [hl]; exact Nat.le_refl 131)]; simp
  rw [e] at hr
  have hg := setRow_grown W w.heap.size (T.cells hd).toArray (by have := h.size; omega)
  refine ⟨_, hr, setRow_heap _ _ _ _ _ _ h.res, ?_, h.bel.grown hg h.bel.size (fun k hk => by cases hk; omega)⟩
  have k1 : Owns Det.cells 7 w.heap.size (W.setRow w.heap.size (T.cells hd).toArray) 39 (hd.d.val T.dets.length) T.dets := own_kept h.dets hg (fun m hm e => by cases e; exact own_ne h.dets h.res (by decide) hm)
  have k2 : Owns Rl.cells 11 w.heap.size (W.setRow w.heap.size (T.cells hd).toArray) 41 (hd.r.val T.rails.length) T.rails := own_kept h.rails hg (fun m hm e => by cases e; exact own_ne h.rails h.res (by decide) hm)
  have k3 : Owns Bs.cells 2 w.heap.size (W.setRow w.heap.size (T.cells hd).toArray) 43 (hd.b.val T.buses.length) T.buses := own_kept h.buses hg (fun m hm e => by cases e; exact own_ne h.buses h.res (by decide) hm)
  exact ⟨h.ph, h.cf, h.fl, (h.groups.grown hg (fun m e => by cases e; exact ⟨_, _, h.res, by decide, by decide⟩)).lie, own_is (fun _ => rfl) k1, own_is (fun _ => rfl) k2, own_is (fun _ => rfl) k3⟩
end Go.Proofs.Ytfekngnfjemgeaa.GenT
namespace Go.Proofs.Ytfekngnfjemgeaa.CodeAt
open Go
def findS (id : Nat) : Code → Option Code
  | .seq a b => if firstR a = some id then some (.seq a b) else (findS id a).or (findS id b)
  | .cond _ a b => (findS id a).or (findS id b)
  | .block _ b => findS id b
  | .loop b => findS id b
  | .scope b => findS id b
  | _ => none
/-- What follows in a function from region number id on. -/
def sq (id : Nat) (f : Func) : Code := ((f.body.bind (findS id)).getD .skip)
end Go.Proofs.Ytfekngnfjemgeaa.CodeAt
namespace Go.Proofs.Ytfekngnfjemgeaa.GenT
end Go.Proofs.Ytfekngnfjemgeaa.GenT
/- The statement's own small table (stage 9): good. -/
namespace Go.Proofs.Ytfekngnfjemgeaa.Good9
open Go.ChangeShapes Go.WideShapes Go.ChangeAt Go.RowKit
open Tab Gath GenG GenT PlaceM
open Clone (zPh)
open GenT (zTab)
set_option linter.unusedVariables false
set_option linter.unusedSimpArgs false
def gp : Ph := ⟨true, 1, 0, 1, 1, 0, 10, 0, 0, 0, 0, false, false⟩
def gc (p : Nat) : Int := if p = 0 then 2 else 1
def goodAt (q : Nat) : Tab := { zTab with phases := upd (fun _ => gp) zPh q, conflict := upd gc 0 q, flash := upd (fun _ => 1) 0 q }
def goodT : Tab := { goodAt 2 with groups := [([0, 1], [])] }
theorem infoTz : (Try.prog.info? 32).map (fun i => (i.zero, i.size)) = some (some (.agg (zTab.cells GenT.zHd).toArray), 131) := by kernel_rfl
theorem infoPz : (Try.prog.info? 24).map (·.size) = some 13 := by kernel_rfl
theorem wpList_store_mid {P : Program} {ops : Array Oper} {rest : List Oper} {op : Oper} {a : Act} {w w' : World} {Q : Exit → Act → World → Prop} (hw : Region.wanted op (yielded ops a.tmps) = true) (ty : TypeId) (x y : Operand) (ho : op.op = .store ty x y) (p : Addr) (cells : Array Value)
    (hx : a.eval x = .pointer (some p)) (hy : a.eval y = .agg cells) (hr : (Instr.storeAt ty (.pointer (some p)) (.agg cells)).run P w = .ok () w') (h : wpList P ops Q rest (a.put op.dst undef) w') : wpList P ops Q (op :: rest) a w :=
  BigFrame.wpList_want hw fun _ hK => by
    unfold Oper.wp execOp
    simp only [ho, hx, hy, Sem.run_bind, hr, Result.andThen_ok, Sem.run_pure]
    exact hK _ _ h
theorem store_ph2 {w W : World} {hd : Hd} {T : Tab} (h : Bx w hd T W) (p : Nat) (hp : p < 8) (x : Ph) :
    ∃ W', (Instr.storeAt 24 (.pointer (some ⟨w.heap.size + 1, p * 13, none⟩)) (.agg x.cells.toArray)).run Try.prog W = .ok () W' ∧ Bx w hd { T with phases := T.phases.set p x } W' := by
  have hl := cells_cut hd h.ph h.cf h.fl
  have hr := Row.run_storeAt_at (P := Try.prog) W (w.heap.size + 1) (p * 13) 32 24 (T.cells hd).toArray x.cells.toArray h.blk infoPz (by simp [hl, Ph.cells]; omega) (Ph.one x)
  refine ⟨_, hr, h.write (GenT.setRow_grown _ _ _ h.size) ?_ (by simp [h.ph]) h.cf h.fl rfl rfl rfl rfl⟩
  rw [setRow_heap _ _ _ _ _ _ h.blk, ← cells_phase hd h.ph p hp x, Nat.mul_comm 13 p]
  rfl
set_option maxRecDepth 100000 in
theorem start (w : World) : Bx w GenT.zHd (goodAt 0) ((w.alloc (.cells (zTab.cells GenT.zHd).toArray 32)).alloc (.cells (zTab.cells GenT.zHd).toArray 32)) :=
  ⟨((Below.refl _ _).alloc (Nat.le_refl _) _).alloc (by simp) _, heap_alloc2_old w _ _, heap_alloc2_new w _ _, rfl, rfl, rfl, ⟨[], rfl, RowOf.nil _, (by intro x hx; simp [GenT.zHd] at hx), (by intro g hg; simp at hg)⟩, Owns.nil, Owns.nil, Owns.nil⟩
def gHd (S : Nat) : Hd := ⟨⟨some ⟨S + 1, 0, none⟩, 1⟩, ⟨none, 0⟩, ⟨none, 0⟩, ⟨none, 0⟩⟩
theorem laidG (wr : World) : GrT ((wr.alloc (.cells #[I 0, I 1] 3)).alloc (.cells #[.slice (some ⟨wr.heap.size, 0, none⟩) 2 2, .slice none 0 0] 36)) ⟨some ⟨wr.heap.size + 1, 0, none⟩, 1⟩ [([0, 1], [])] := by
  have b0 := heap_alloc2_old wr (.cells #[I 0, I 1] 3) (.cells #[.slice (some ⟨wr.heap.size, 0, none⟩) 2 2, .slice none 0 0] 36)
  have b1 := heap_alloc2_new wr (.cells #[I 0, I 1] 3) (.cells #[.slice (some ⟨wr.heap.size, 0, none⟩) 2 2, .slice none 0 0] 36)
  generalize (wr.alloc (.cells #[I 0, I 1] 3)).alloc (.cells #[.slice (some ⟨wr.heap.size, 0, none⟩) 2 2, .slice none 0 0] 36) = W at *
  have l0 := Row.lies_of_block b0
  have l1 := Row.lies_of_block b1
  refine ⟨[⟨[0, 1], [], ⟨some ⟨wr.heap.size, 0, none⟩, 2⟩, ⟨none, 0⟩⟩], rfl, .inr ⟨_, rfl, Nat.le_refl _, (show 1 ≤ maxLen by decide), ?_⟩, ?_, ?_⟩
  · intro i v hv
    match i, hv with
    | 0, hv =>
      obtain rfl : _ = v := by simpa using hv
      simpa [Addr.add, Gr.cells, Sl.val] using l1
    | (i + 1), hv => simp at hv
  · intro x hx
    cases hx
    exact ⟨_, b1⟩
  · intro g hg
    simp only [List.mem_singleton] at hg
    subst hg
    refine ⟨⟨.inr ⟨_, rfl, Nat.le_refl _, (show 2 ≤ maxLen by decide), ?_⟩, ?_⟩, ⟨RowOf.nil _, fun x hx => by cases hx⟩⟩
    · intro i v hv j u hu
      match i, hv with
      | 0, hv =>
        obtain rfl : _ = v := by simpa using hv
        match j, hu with
        | 0, hu =>
          obtain rfl : _ = u := by simpa using hu
          rw [show (((⟨wr.heap.size, 0, none⟩ : Addr).add (0 * 1)).add 0) = ⟨wr.heap.size, 0, none⟩ from rfl, cell_of_row _ _ _ _ _ _ b0]
          rfl
        | (j + 1), hu => simp at hu
      | 1, hv =>
        obtain rfl : _ = v := by simpa using hv
        match j, hu with
        | 0, hu =>
          obtain rfl : _ = u := by simpa using hu
          rw [show (((⟨wr.heap.size, 0, none⟩ : Addr).add (1 * 1)).add 0) = ⟨wr.heap.size, 1, none⟩ from rfl, cell_of_row _ _ _ _ _ _ b0]
          rfl
        | (j + 1), hu => simp at hu
      | (i + 2), hv => simp at hv
    · intro x hx
      cases hx
      exact ⟨_, b0⟩
theorem laid {w wr W : World} (h : Bx w GenT.zHd (goodAt 2) W) (S : Nat) (hG : GrT W ⟨some ⟨S + 1, 0, none⟩, 1⟩ [([0, 1], [])]) : Bx w (gHd S) goodT (W.setCell ⟨w.heap.size + 1, 104, none⟩ (.slice (some ⟨S + 1, 0, none⟩) 1 1)) := by
  have hg := grown_set W (w.heap.size + 1) 104 (.slice (some ⟨S + 1, 0, none⟩) 1 1)
  refine ⟨h.bel.grown hg h.bel.size (fun k hk => by cases hk; omega), (hg.block _ (by have := h.size; omega) (fun e => by simp at e)).trans h.res, ?_, rfl, rfl, rfl, ?_, Owns.nil, Owns.nil, Owns.nil⟩
  · rw [heap_setCell_same _ _ _ _ _ _ h.blk]
    have := cells_groups (T := goodAt 2) GenT.zHd rfl ⟨some ⟨S + 1, 0, none⟩, 1⟩ [([0, 1], [])]
    simp only [Sl.val, List.length_singleton] at this
    rw [show goodT = { goodAt 2 with groups := [([0, 1], [])] } from rfl, show gHd S = ⟨⟨some ⟨S + 1, 0, none⟩, 1⟩, GenT.zHd.d, GenT.zHd.r, GenT.zHd.b⟩ from rfl, ← this]
    simp
  · exact hG.grown hg (fun m e => by
      cases e
      exact ⟨_, _, h.blk, by decide, by decide⟩)
set_option maxRecDepth 100000 in
set_option maxHeartbeats 8000000 in
theorem good_any (w : World) : Calls Try.prog 41 #[] w fun e w' => ∃ hd, e = .returned (.agg (goodT.cells hd).toArray) ∧ IsTab w' hd goodT ∧ Below w.heap.size w w' := by
  have hz := (zero_of_info infoTz).1
  have ST := Lib.hid (start w)
  have ZL : (zTab.cells GenT.zHd).length = 131 := rfl
  generalize hZ : zTab.cells GenT.zHd = Z at *
  clear hZ
  go_enter Try.func41, Try.ntmps41
  go_upto_region 2 with fail
  generalize (w.alloc (.cells Z.toArray 32)).alloc (.cells Z.toArray 32) = W0 at ST ⊢
  clear hz ZL
  go_wp2_with fail
  go_loopw [2] (fun i wr => ∃ q : Nat, q ≤ 2 ∧ i = .int .i64 q ∧ Bx w GenT.zHd (goodAt q) wr) (fun i _ => 2 - (intOf i).toNat)
  case atStart => exact ⟨0, by omega, rfl, ST.out⟩
  case round =>
    obtain ⟨q, hq, rfl, hB⟩ := hrel
    have HB := Lib.hid hB
    clear hB
    by_cases hlt : q < 2
    · obtain ⟨w3, hst, hB3⟩ := store_ph2 HB.out q (by omega) gp
      have HST := Lib.hid hst
      clear hst
      have HB3 := Lib.hid hB3
      have hs1 := hB3.set (105 + q) (I (gc q)) (cells_conflict GenT.zHd hB3.ph hB3.cf q (by omega) (gc q)) hB3.ph (by simp [goodAt, upd_len]) hB3.fl rfl rfl rfl rfl
      have e1 : (upd (fun _ => gp) zPh q).set q gp = upd (fun _ => gp) zPh (q + 1) := upd_succ _ _ _
      have e2 : (upd gc 0 q).set q (gc q) = upd gc 0 (q + 1) := upd_succ _ _ _
      have e3 : (upd (fun _ => (1 : Int)) 0 q).set q 1 = upd (fun _ => 1) 0 (q + 1) := upd_succ _ _ _
      have hs2 := hs1.set (121 + q) (I 1) (cells_flash GenT.zHd hs1.ph hs1.cf hs1.fl q (by omega) 1) hs1.ph hs1.cf (by simp [goodAt, upd_len]) rfl rfl rfl rfl
      have c5 : w3.cell? ⟨w.heap.size + 1, 105 + q, none⟩ = some (I 0) := (range_of HB3.out.blk 105 8 _ (cells_ok HB3.out.tab).conflict) q _ (by
        rw [List.getElem?_map]
        show ((upd gc 0 q)[q]?).map I = _
        rw [upd_at _ _ _ _ (by omega), if_neg (by omega)]; rfl)
      have f5 := HB3.out.frozen (105 + q)
      have c7 : (w3.setCell ⟨w.heap.size + 1, 105 + q, none⟩ (I (gc q))).cell? ⟨w.heap.size + 1, 121 + q, none⟩ = some (I 0) := (range_of hs1.blk 121 8 _ (cells_ok hs1.tab).flash) q _ (by
        rw [List.getElem?_map]
        show ((upd (fun _ => (1 : Int)) 0 q)[q]?).map I = _
        rw [upd_at _ _ _ _ (by omega), if_neg (by omega)]; rfl)
      have f7 := hs1.frozen (121 + q)
      have HS : Hid (Bx w GenT.zHd (goodAt (q + 1)) ((w3.setCell ⟨w.heap.size + 1, 105 + q, none⟩ (I (gc q))).setCell ⟨w.heap.size + 1, 121 + q, none⟩ (I 1))) := Lib.hid (by
        have h := hs2
        simp only [goodAt] at h
        rw [e1, e2, e3] at h
        exact h)
      clear hs1 hs2 e1 e2 e3 hB3 HB3 HB ST
      have h01 : q = 0 ∨ q = 1 := by omega
      clear hq hlt
      rcases h01 with rfl | rfl
      · have hg : gc 0 = 2 := rfl
        rw [hg] at c7 f7 HS
        rw [show ((0 : Nat) : Int) = (0 : Int) from rfl]
        go_wp2_with (refine wpList_store_mid (by rfl) 24 _ _ rfl ⟨w.heap.size + 1, 0 * 13, none⟩ gp.cells.toArray rfl rfl HST.out ?_)
        (try go_wp2)
        go_roundw
        case rel => exact ⟨0 + 1, by omega, by go_num, HS.out⟩
        case measure => simp [intOf]
      · have hg : gc 1 = 1 := rfl
        rw [hg] at c7 f7 HS
        rw [show ((1 : Nat) : Int) = (1 : Int) from rfl]
        go_wp2_with (refine wpList_store_mid (by rfl) 24 _ _ rfl ⟨w.heap.size + 1, 1 * 13, none⟩ gp.cells.toArray rfl rfl HST.out ?_)
        (try go_wp2)
        go_roundw
        case rel => exact ⟨1 + 1, by omega, by go_num, HS.out⟩
        case measure => simp [intOf]
    · obtain rfl : q = 2 := by omega
      have hbel : Below wr.heap.size wr ((wr.alloc (.cells #[I 0, I 1] 3)).alloc (.cells #[.slice (some ⟨wr.heap.size, 0, none⟩) 2 2, .slice none 0 0] 36)) := ((Below.refl _ _).alloc (Nat.le_refl _) _).alloc (by simp) _
      have HW := Lib.hid (HB.out.step hbel)
      have c104 : ((wr.alloc (.cells #[I 0, I 1] 3)).alloc (.cells #[.slice (some ⟨wr.heap.size, 0, none⟩) 2 2, .slice none 0 0] 36)).cell? ⟨w.heap.size + 1, 104, none⟩ = some (.slice none 0 0) := by rw [HW.out.cell]; rfl
      have f104 := HW.out.frozen 104
      have HL := Lib.hid (laid (wr := wr) HW.out wr.heap.size (laidG wr))
      obtain ⟨w8, hst, hbk, htab, hbel8⟩ := HL.out.store_res
      have IA : Hid ((Try.prog.info? 32).map (·.size) = some (goodT.cells (gHd wr.heap.size)).length) := Lib.hid May.infoT
      have LT : Hid (Lies _ ⟨w.heap.size + 1, 0, none⟩ (goodT.cells (gHd wr.heap.size))) := Lib.hid (by have := Row.lies_of_block HL.out.blk; simpa using this)
      have FIN : Hid (∃ hd, Ending.returned (.agg (goodT.cells (gHd wr.heap.size)).toArray) = .returned (.agg (goodT.cells hd).toArray) ∧ IsTab w8 hd goodT ∧ Below w.heap.size w w8) := Lib.hid ⟨_, rfl, htab, hbel8⟩
      have HK := Lib.hid hbk
      have csl : (goodT.cells (gHd wr.heap.size)).length = 131 := rfl
      clear hbk htab hbel8 HL HW hbel HB ST hq hlt
      generalize goodT.cells (gHd wr.heap.size) = cs at *
      go_wp2_with (refine Row.wpList_load_g 32 _ rfl (by first | rfl | go_simp) ⟨w.heap.size + 1, 0, none⟩ rfl cs _ LT.out Try.underlying32 rfl IA.out ?_)
      (try simp only [Exit.inBlock, Exit.then])
      refine bodyPost_ret (v := .agg cs.toArray) ?_ rfl FIN.out
      exact results_cell_row rfl _ _ w.heap.size 32 _ (0, 0) _ rfl HK.out Try.underlying32 rfl (by have := IA.out; simpa using this)
end Go.Proofs.Ytfekngnfjemgeaa.Good9
/- The chapter's examples hold (stage 9): the statement's own awake returns true. -/
namespace Go.Proofs.Ytfekngnfjemgeaa.Wa9
open Go.ChangeShapes Go.WideShapes Go.ChangeAt Go.RowKit
open Tab Clone PlaceM PlanM OnS ChkM ChkK
open May (chain infoT)
open Same (Eqs)
set_option linter.unusedVariables false
set_option linter.unusedSimpArgs false
theorem chk_z : chkC zTab = (8, 0) := by decide +kernel
theorem chk_g : chkC Good9.goodT = (0, 0) := by decide +kernel
theorem builtZ : Try.prog.built 32 [] = some (zTab.cells zHd).toArray := by kernel_rfl
section
variable {P : Program} {ops : Array Oper} {Q : Exit → Act → World → Prop}
theorem wpList_build0 {rest : List Oper} {o : Oper} {a : Act} {w : World} (hgd : o.guard = none) (t : TypeId) (ho : o.op = .build t #[]) (cells : Array Value) (hb : P.built t [] = some cells)
    (h : wpList P ops Q rest (a.put o.dst (.agg cells)) w) : wpList P ops Q (o :: rest) a w :=
  wpList_plain hgd fun _ hK => by
    unfold Oper.wp execOp
    have hb' : P.built t ((#[] : Array (Nat × Operand)).map fun (i, x) => (i, a.eval x)).toList = some cells := by simpa using hb
    simp only [ho, Sem.run_bind, run_build w t _ _ hb', Result.andThen_ok, Sem.run_pure]
    exact hK _ _ h
end
set_option maxRecDepth 10000 in
set_option maxHeartbeats 4000000 in
theorem awake_any (w : World) : Calls Try.prog 13 #[] w fun e w' => e = .returned (.bool true) ∧ Below w.heap.size w w' := by
  have BZ := Lib.hid builtZ
  have CZ : Hid (∀ W, Calls Try.prog 14 #[.agg (zTab.cells zHd).toArray] W fun e w' => e = .returned (.agg #[I 8, I 0]) ∧ Below W.heap.size W w') := Lib.hid (fun W => by have := check_any zTab zHd W (z_is W); rwa [chk_z] at this)
  have GD : Hid (∀ W, Calls Try.prog 41 #[] W fun e w' => ∃ c : Array Value, e = .returned (.agg c) ∧ Hid (Calls Try.prog 14 #[.agg c] w' fun e2 w2 => e2 = .returned (.agg #[I 0, I 0]) ∧ Below w'.heap.size w' w2) ∧ Below W.heap.size W w') := Lib.hid (fun W => (Good9.good_any W).mono (by
    rintro e w' ⟨hd, rfl, ht, hb⟩
    refine ⟨_, rfl, Lib.hid ?_, hb⟩
    have := check_any Good9.goodT hd w' ht
    rwa [chk_g] at this))
  have E1 := Lib.hid (show Eqs 49 [I 8, I 0] [I 8, I 0] true from fault_eqs 8 0 8 0)
  have E2 := Lib.hid (show Eqs 49 [I 0, I 0] [I 0, I 0] true from fault_eqs 0 0 0 0)
  generalize (zTab.cells zHd).toArray = Z at BZ CZ
  go_enter Try.func13, Try.ntmps13
  go_upto_region 1 with fail
  go_wp2_with (refine wpList_build0 rfl 32 rfl Z BZ.out ?_)
  refine (CZ.out _).mono ?_
  rintro e u1 ⟨rfl, hb⟩
  have B1 := Lib.hid hb
  clear hb CZ BZ
  go_wp2_with (refine Row.wpList_eql 49 _ _ _ rfl (by rfl) #[I 8, I 0] #[I 8, I 0] rfl rfl guardF true E1.out ?_)
  refine (GD.out _).mono ?_
  rintro e u2 ⟨c, rfl, CG, hb⟩
  have B2 := Lib.hid (B1.out.trans (hb.mono B1.out.size))
  clear hb B1 GD
  go_wp2_with fail
  refine CG.out.mono ?_
  rintro e u3 ⟨rfl, hb⟩
  have B3 := Lib.hid (B2.out.trans (hb.mono B2.out.size))
  clear hb B2 CG
  go_wp2_with (refine Row.wpList_eql 49 _ _ _ rfl (by rfl) #[I 0, I 0] #[I 0, I 0] rfl rfl guardF true E2.out ?_)
  (try go_wp2)
  go_ret
  exact ⟨rfl, B3.out⟩
end Go.Proofs.Ytfekngnfjemgeaa.Wa9
/- What package check and the document ask of a table is one: plain mathematics. No program in it. -/
namespace Go.Proofs.Ytfekngnfjemgeaa.ChkX
open Go Tab PlaceM PlanM OnS May ChkM
set_option linter.unusedVariables false
set_option linter.unusedSimpArgs false
/-! ### sets -/
theorem low_in {a : Int} (h : 0 ≤ a ∧ a ≤ 255) : ((SetM.low a : Nat) : Int) = a := by unfold SetM.low; omega
theorem has_bits {a q : Int} : SetM.has a q = true ↔ 0 ≤ q ∧ q < 8 ∧ (SetM.low a).testBit q.toNat = true := by
  unfold SetM.has
  rw [Bool.and_eq_true, decide_eq_true_eq]
  constructor
  · rintro ⟨h1, h2⟩
    refine ⟨h1, ?_, h2⟩
    by_cases h8 : q < 8
    · exact h8
    · rw [SetM.test_high _ _ (SetM.low_lt a) (by omega)] at h2; cases h2
  · rintro ⟨h1, _, h2⟩; exact ⟨h1, h2⟩
theorem low_ne {m : Nat} (hm : m < 256) : m ≠ 0 ↔ ∃ q : Int, SetM.has (m : Int) q = true := by
  constructor
  · intro h
    refine Classical.byContradiction fun hn => h ?_
    refine Nat.eq_of_testBit_eq fun k => ?_
    rw [Nat.zero_testBit]
    cases ht : m.testBit k with
    | false => rfl
    | true =>
      exfalso
      refine hn ⟨(k : Int), has_bits.2 ⟨by omega, ?_, ?_⟩⟩
      · by_cases h8 : k < 8
        · omega
        · rw [SetM.test_high _ _ hm (by omega)] at ht; cases ht
      · rw [SetM.low_nat _ hm, Int.toNat_natCast]; exact ht
  · rintro ⟨q, hq⟩ rfl
    have := (has_bits.1 hq).2.2
    rw [SetM.low_nat _ hm, Nat.zero_testBit] at this
    cases this
theorem and_ne {a b : Int} (hb : 0 ≤ b ∧ b ≤ 255) : bits .and .i64 a b ≠ 0 ↔ ∃ q : Int, SetM.has a q = true ∧ SetM.has b q = true := by
  have e : bits .and .i64 a b = ((SetM.low a &&& SetM.low b : Nat) : Int) := by
    have := SetM.and_low a (SetM.low b) (SetM.low_lt b)
    rwa [low_in hb] at this
  have hlt : SetM.low a &&& SetM.low b < 256 := Nat.lt_of_le_of_lt Nat.and_le_left (SetM.low_lt a)
  rw [e]
  have : ((SetM.low a &&& SetM.low b : Nat) : Int) ≠ 0 ↔ (SetM.low a &&& SetM.low b) ≠ 0 := by omega
  rw [this, low_ne hlt]
  constructor
  · rintro ⟨q, hq⟩
    obtain ⟨h1, h2, h3⟩ := has_bits.1 hq
    rw [SetM.low_nat _ hlt, Nat.testBit_and, Bool.and_eq_true] at h3
    exact ⟨q, has_bits.2 ⟨h1, h2, h3.1⟩, has_bits.2 ⟨h1, h2, h3.2⟩⟩
  · rintro ⟨q, h1, h2⟩
    obtain ⟨h3, h4, h5⟩ := has_bits.1 h1
    obtain ⟨_, _, h6⟩ := has_bits.1 h2
    refine ⟨q, has_bits.2 ⟨h3, h4, ?_⟩⟩
    rw [SetM.low_nat _ hlt, Nat.testBit_and, h5, h6]; rfl
theorem andNot_eq {a : Int} (ha : 0 ≤ a ∧ a ≤ 255) {m : Nat} (hm : m < 256) : bits .andNot .i64 a (m : Int) = ((SetM.low a &&& (255 - m) : Nat) : Int) := by
  obtain ⟨k, rfl⟩ := Int.eq_ofNat_of_zero_le ha.1
  have hk : k < 256 := by omega
  have h1 := SetM.andNot_low (k : Int) m hm
  have e : bits .andNot .i64 (k : Int) (m : Int) = IntKind.i64.wrap (((BitVec.ofInt 64 (k : Int) &&& ~~~ BitVec.ofInt 64 (m : Int)).toNat : Nat) : Int) := rfl
  have hlt : (BitVec.ofInt 64 (k : Int) &&& ~~~ BitVec.ofInt 64 (m : Int)).toNat < 256 := by
    rw [BitVec.toNat_and, SetM.toNat_ofNat k hk]
    exact Nat.lt_of_le_of_lt Nat.and_le_left hk
  rw [e, SetM.wrap_small _ hlt] at h1 ⊢
  rw [← h1, SetM.low_nat _ hlt]
theorem not_bit {m k : Nat} (hm : m < 256) (hk : k < 8) : (255 - m).testBit k = !m.testBit k := by
  have : ∀ m : Fin 256, ∀ k : Fin 8, (255 - m.val).testBit k.val = !m.val.testBit k.val := by decide +kernel
  exact this ⟨m, hm⟩ ⟨k, hk⟩
theorem andNot_zero {a : Int} (ha : 0 ≤ a ∧ a ≤ 255) {m : Nat} (hm : m < 256) : bits .andNot .i64 a (m : Int) = 0 ↔ ∀ q, SetM.has a q = true → SetM.has (m : Int) q = true := by
  rw [andNot_eq ha hm]
  have hlt : SetM.low a &&& (255 - m) < 256 := Nat.lt_of_le_of_lt Nat.and_le_left (SetM.low_lt a)
  have h0 : ((SetM.low a &&& (255 - m) : Nat) : Int) = 0 ↔ ¬ (SetM.low a &&& (255 - m)) ≠ 0 := by omega
  rw [h0, low_ne hlt]
  constructor
  · intro h q hq
    obtain ⟨h1, h2, h3⟩ := has_bits.1 hq
    refine Classical.byContradiction fun hn => h ⟨q, has_bits.2 ⟨h1, h2, ?_⟩⟩
    rw [SetM.low_nat _ hlt, Nat.testBit_and, h3, not_bit hm (by omega), Bool.true_and]
    cases ht : m.testBit q.toNat with
    | false => rfl
    | true => exact absurd (has_bits.2 ⟨h1, h2, by rw [SetM.low_nat _ hm]; exact ht⟩) hn
  · rintro h ⟨q, hq⟩
    obtain ⟨h1, h2, h3⟩ := has_bits.1 hq
    rw [SetM.low_nat _ hlt, Nat.testBit_and, not_bit hm (by omega), Bool.and_eq_true] at h3
    have h4 := (has_bits.1 (h q (has_bits.2 ⟨h1, h2, h3.1⟩))).2.2
    rw [SetM.low_nat _ hm] at h4
    rw [h4] at h3
    cases h3.2
theorem allOn_iff {T : Tab} {s : Int} (hs : 0 ≤ s ∧ s ≤ 255) : allOn T s = true ↔ ∀ q, SetM.has s q = true → SetM.has (onS T : Nat) q = true := by
  unfold allOn
  rw [beq_iff_eq, andNot_zero hs (show onS T < 256 from SetM.of_lt _)]
theorem inR_eq {T : Tab} {s : Int} (hs : 0 ≤ s ∧ s ≤ 255) : inR s (onS T : Nat) = allOn T s := by
  unfold inR allOn
  rw [SetM.and_255, andNot_eq hs (show onS T < 256 from SetM.of_lt _), SetM.low_nat _ (Nat.lt_of_le_of_lt Nat.and_le_left (SetM.low_lt s))]
theorem has_of {l : List Int} {q : Int} : SetM.has ((SetM.of l : Nat) : Int) q = true ↔ 0 ≤ q ∧ q < 8 ∧ q ∈ l := by
  rw [has_bits, SetM.low_nat _ (SetM.of_lt _), SetM.of_test, decide_eq_true_eq]
  constructor
  · rintro ⟨h1, h2, h3, _⟩; exact ⟨h1, h2, by rwa [Int.toNat_of_nonneg h1] at h3⟩
  · rintro ⟨h1, h2, h3⟩; exact ⟨h1, h2, by rwa [Int.toNat_of_nonneg h1], by omega⟩
theorem mem_onTo {x : Int} : ∀ {i : Nat} {l : List Ph}, x ∈ onTo i l ↔ ∃ j u, l[j]? = some u ∧ u.on = true ∧ x = ((i + j : Nat) : Int)
  | i, [] => by simp [onTo]
  | i, p :: l => by
    rw [onTo, List.mem_append, mem_onTo (i := i + 1) (l := l)]
    constructor
    · rintro (h | ⟨j, u, h1, h2, h3⟩)
      · by_cases hp : p.on
        · rw [if_pos hp] at h
          exact ⟨0, p, rfl, hp, by simpa using h⟩
        · rw [if_neg hp] at h; cases h
      · exact ⟨j + 1, u, by simpa using h1, h2, by rw [h3]; congr 1; omega⟩
    · rintro ⟨j, u, h1, h2, h3⟩
      cases j with
      | zero =>
        obtain rfl : p = u := by simpa using h1
        exact .inl (by rw [if_pos h2]; simpa using h3)
      | succ j => exact .inr ⟨j, u, by simpa using h1, h2, by rw [h3]; congr 1; omega⟩
theorem has_on {T : Tab} (h8 : T.phases.length = 8) {p : Int} (h0 : 0 ≤ p) (hp : p < 8) : SetM.has (onS T : Nat) p = (phAt T p).on := by
  obtain ⟨k, rfl⟩ := Int.eq_ofNat_of_zero_le h0
  have hk : k < T.phases.length := by omega
  have e : phAt T k = T.phases[k] := by unfold phAt; rw [Int.toNat_natCast, List.getD_eq_getElem?_getD, List.getElem?_eq_getElem hk]; rfl
  rw [Bool.eq_iff_iff]
  unfold onS onL
  rw [has_of, mem_onTo, e]
  constructor
  · rintro ⟨_, _, j, u, h1, h2, h3⟩
    obtain rfl : k = j := by omega
    rw [List.getElem?_eq_getElem hk] at h1
    obtain rfl := Option.some.inj h1
    exact h2
  · intro h
    exact ⟨h0, hp, k, _, List.getElem?_eq_getElem hk, h, by simp⟩
theorem mem_ons {T : Tab} {q : Int} : q ∈ ons T ↔ SetM.has (onS T : Nat) q = true := SetM.mem_list _ _
theorem allIn_iff {m : Int} {l : List Int} : allIn m l = true ↔ ∀ x ∈ l, 0 ≤ x ∧ x ≤ m := by
  unfold allIn inB
  rw [List.all_eq_true]
  constructor
  · intro h x hx; have := h x hx; simpa using this
  · intro h x hx; have := h x hx; simpa using this
/-- What May gives. -/
structure InR (T : Tab) : Prop where
  ph : ∀ u ∈ T.phases, Ph.may u = true
  gr : ∀ g ∈ T.groups, groupMay g = true
  cf : ∀ x ∈ T.conflict, 0 ≤ x ∧ x ≤ 255
  dt : ∀ d ∈ T.dets, Det.may d = true
  rl : ∀ r ∈ T.rails, Rl.may r = true
  bs : ∀ b ∈ T.buses, Bs.may b = true
theorem in_ranges {T : Tab} (h : tabMay T = true) : InR T := by
  unfold tabMay listMay at h
  simp only [Bool.and_eq_true, List.all_eq_true] at h
  obtain ⟨⟨_, h1⟩, ⟨_, h2⟩, h3, ⟨_, h4⟩, ⟨_, h5⟩, ⟨_, h6⟩, _⟩ := h
  exact ⟨h1, h2, allIn_iff.1 h3, h4, h5, h6⟩
theorem cf_in {T : Tab} (h : InR T) (hc : T.conflict.length = 8) {p : Int} (h0 : 0 ≤ p) (h8 : p < 8) : 0 ≤ cfAt T p ∧ cfAt T p ≤ 255 := by
  refine h.cf _ ?_
  unfold cfAt
  rw [List.getD_eq_getElem?_getD, List.getElem?_eq_getElem (show p.toNat < T.conflict.length by omega)]
  exact List.getElem_mem _
/-! ### rules 2, 4, 5, 8 -/
theorem lt_dec (a b : Int) : decide (a < b) = !decide (b ≤ a) := by rw [Bool.eq_iff_iff]; simp
theorem ph_eq {u : Ph} (h : Ph.may u = true) : phOk u = !phBad u := by
  unfold Ph.may at h
  rw [Bool.and_eq_true, allIn_iff, allIn_iff] at h
  have hw := h.1 u.walk (by simp)
  have hb := h.1 u.blinks (by simp)
  obtain ⟨on, min, gap, max, top, step, yellow, red, walk, blinks, recall, lock, rest⟩ := u
  clear h
  unfold phOk phBad
  simp only at *
  have e0 : (walk == 0) = !decide (0 < walk) := by rw [Bool.eq_iff_iff]; simp; omega
  have e1 : (blinks == 0) = !decide (0 < blinks) := by rw [Bool.eq_iff_iff]; simp; omega
  rw [e0, e1, lt_dec min 1, lt_dec yellow 10, lt_dec max min, lt_dec top max, lt_dec step 1]
  have e2 : (recall != 3) = !(recall == 3) := rfl
  rw [e2]
  generalize decide (0 < walk) = b0
  generalize decide (0 < blinks) = b1
  generalize decide (1 ≤ min) = b2
  generalize decide (10 ≤ yellow) = b3
  generalize decide (min ≤ max) = b4
  generalize decide (1 ≤ step) = b5
  generalize (recall == 3) = b6
  by_cases h4 : max ≤ top
  · have e3 : (top == max) = !decide (max < top) := by rw [Bool.eq_iff_iff]; simp; omega
    rw [e3, decide_eq_true h4]
    generalize decide (max < top) = b7
    revert b0 b1 b2 b3 b4 b5 b6 b7
    decide
  · rw [decide_eq_false h4]
    generalize decide (max < top) = b7
    generalize (top == max) = b8
    revert b0 b1 b2 b3 b4 b5 b6 b7 b8
    decide
theorem ph_at {T : Tab} (h : InR T) (h8 : T.phases.length = 8) {p : Int} (h0 : 0 ≤ p) (hp : p < 8) : Ph.may (phAt T p) = true := by
  refine h.ph _ ?_
  unfold phAt
  rw [List.getD_eq_getElem?_getD, List.getElem?_eq_getElem (show p.toNat < T.phases.length by omega)]
  exact List.getElem_mem _
theorem conf_eq {T : Tab} {p : Int} (hp : p ∈ ons T) : confOk T p = !confBad T p := by
  unfold confOk
  congr 1
  rw [Bool.eq_iff_iff]
  unfold confBad
  rw [List.any_eq_true, Bool.or_eq_true, List.any_eq_true]
  constructor
  · rintro ⟨q, hq, h⟩
    unfold confR at h
    rw [Bool.or_eq_true, Bool.and_eq_true, beq_iff_eq] at h
    rcases h with ⟨h1, rfl⟩ | h
    · exact .inl h1
    · exact .inr ⟨q, hq, h⟩
  · rintro (h | ⟨q, hq, h⟩)
    · exact ⟨p, hp, by unfold confR; rw [h]; simp⟩
    · refine ⟨q, hq, ?_⟩
      unfold confR
      rw [h]; simp
theorem det_eq {T : Tab} (h8 : T.phases.length = 8) {d : Det} (h0 : 0 ≤ d.phase) (hp : d.phase < 8) : detBad T d = detR T d := by
  unfold detBad detR; rw [has_on h8 h0 hp]
theorem mem_yel {T : Tab} {q : Int} : SetM.has (yellows T : Nat) q = true ↔ q ∈ ons T ∧ flAt T q = 2 := by
  unfold yellows
  rw [has_of, List.mem_filter]
  unfold yel
  rw [beq_iff_eq]
  constructor
  · rintro ⟨_, _, h⟩; exact h
  · intro h; have := SetM.list_bd _ _ h.1; exact ⟨this.1, this.2, h⟩
theorem flash_eq {T : Tab} {p : Int} : flashOk T p = !flashBad T p := by
  have hy : 0 ≤ ((yellows T : Nat) : Int) ∧ ((yellows T : Nat) : Int) ≤ 255 := by have : yellows T < 256 := SetM.of_lt _; omega
  have e : (bits .and .i64 (cfAt T p) (yellows T : Nat) != 0) = (ons T).any fun q => flAt T q == 2 && SetM.has (cfAt T p) q := by
    rw [Bool.eq_iff_iff, bne_iff_ne, and_ne hy, List.any_eq_true]
    constructor
    · rintro ⟨q, h1, h2⟩; obtain ⟨h3, h4⟩ := mem_yel.1 h2; exact ⟨q, h3, by rw [h4, h1]; rfl⟩
    · rintro ⟨q, h1, h2⟩
      rw [Bool.and_eq_true, beq_iff_eq] at h2
      exact ⟨q, h2.2, mem_yel.2 ⟨h1, h2.1⟩⟩
  unfold flashOk flashBad
  rw [e]
  unfold flashR
  by_cases h0 : flAt T p = 0
  · rw [h0]; rfl
  by_cases h2 : flAt T p = 2
  · rw [h2]; simp
  · have e2 : (flAt T p == 2) = false := beq_eq_false_iff_ne.2 h2
    have e0 : (flAt T p == 0) = false := beq_eq_false_iff_ne.2 h0
    have e1 : (flAt T p != 0) = true := bne_iff_ne.2 h0
    rw [e0, e1]
    simp only [e2, Bool.false_and]
    simp
/-! ### rules 6 and 7 -/
theorem bus_eq {T : Tab} {b : Bs} (h : Bs.may b = true) : busBad T b = busR T b := by
  unfold Bs.may at h
  rw [Bool.and_eq_true, allIn_iff] at h
  unfold busBad busR
  rw [inR_eq (h.1 b.set (by simp))]
theorem clash_eq {T : Tab} (h : InR T) (hc : T.conflict.length = 8) {s : Int} (hs : 0 ≤ s ∧ s ≤ 255) : clashC T s = clashR T s s := by
  rw [Bool.eq_iff_iff]
  unfold clashC clashR
  rw [List.any_eq_true, List.any_eq_true]
  constructor
  · rintro ⟨p, hp, h1⟩
    rw [bne_iff_ne, and_ne hs] at h1
    obtain ⟨q, h2, h3⟩ := h1
    exact ⟨p, hp, List.any_eq_true.2 ⟨q, (SetM.mem_list _ _).2 h3, by rw [h2]; rfl⟩⟩
  · rintro ⟨p, hp, h1⟩
    obtain ⟨q, hq, h2⟩ := List.any_eq_true.1 h1
    rw [Bool.or_eq_true] at h2
    rcases h2 with h2 | h2
    · exact ⟨p, hp, bne_iff_ne.2 ((and_ne hs).2 ⟨q, h2, (SetM.mem_list _ _).1 hq⟩)⟩
    · exact ⟨q, hq, bne_iff_ne.2 ((and_ne hs).2 ⟨p, h2, (SetM.mem_list _ _).1 hp⟩)⟩
theorem beside_symm (T : Tab) (p q : Int) : beside T p q = beside T q p := by
  unfold beside
  cases where_ T p with
  | none => cases where_ T q <;> rfl
  | some a =>
    cases where_ T q with
    | none => rfl
    | some b =>
      show (a.g == b.g && a.k != b.k) = (b.g == a.g && b.k != a.k)
      rw [Bool.beq_comm, bne_comm]
theorem list_nodup (s : Int) : (SetM.list s).Nodup := by
  unfold SetM.list SetM.upto List.Nodup
  rw [List.pairwise_map]
  exact (List.nodup_range.sublist List.filter_sublist).imp (fun h e => h (Int.ofNat.inj e))
theorem abreast_eq {T : Tab} {s : Int} : abreast T s = pairs T (SetM.list s) := by
  have hn := list_nodup s
  have hm : ∀ p q, q ∈ SetM.list (SetM.withoutN s p : Nat) ↔ q ∈ SetM.list s ∧ q ≠ p := by
    intro p q
    rw [SetM.mem_list, SetM.mem_list, SetM.has_without, Bool.and_eq_true]
    simp
  rw [Bool.eq_iff_iff]
  unfold abreast pairs
  simp only [List.all_eq_true, List.mem_range, hm]
  generalize SetM.list s = L at *
  constructor
  · intro h i hi k hk
    have e1 : L.getD i 0 = L[i] := by rw [List.getD_eq_getElem?_getD, List.getElem?_eq_getElem hi]; rfl
    have e2 : L.getD k 0 = L[k]'(by omega) := by rw [List.getD_eq_getElem?_getD, List.getElem?_eq_getElem (by omega)]; rfl
    rw [e1, e2]
    refine h _ (List.getElem_mem _) _ ⟨List.getElem_mem _, fun e => ?_⟩
    have := List.pairwise_iff_getElem.1 hn k i (by omega) hi hk
    exact this e
  · rintro h p hp q ⟨hq, hne⟩
    obtain ⟨i, hi, rfl⟩ := List.getElem_of_mem hp
    obtain ⟨k, hk, rfl⟩ := List.getElem_of_mem hq
    have e : ∀ (j : Nat) (hj : j < L.length), L.getD j 0 = L[j] := fun j hj => by rw [List.getD_eq_getElem?_getD, List.getElem?_eq_getElem hj]; rfl
    rcases Nat.lt_trichotomy k i with h1 | h1 | h1
    · have := h i hi k h1; rwa [e i hi, e k hk] at this
    · subst h1; exact absurd rfl hne
    · have := h k hk i h1; rw [e i hi, e k hk] at this; rw [beside_symm]; exact this
theorem or_in {a b : Int} (ha : 0 ≤ a ∧ a ≤ 255) (hb : 0 ≤ b ∧ b ≤ 255) : 0 ≤ bits .or .i64 a b ∧ bits .or .i64 a b ≤ 255 := by
  obtain ⟨m, rfl⟩ := Int.eq_ofNat_of_zero_le ha.1
  obtain ⟨n, rfl⟩ := Int.eq_ofNat_of_zero_le hb.1
  rw [RefS.or_small m n (by omega) (by omega)]
  have := Nat.or_lt_two_pow (n := 8) (show m < 2 ^ 8 by omega) (show n < 2 ^ 8 by omega)
  omega
theorem exit_eq {T : Tab} {s : Int} (hs : 0 ≤ s ∧ s ≤ 255) : exitR T s = (s != 0 && abreast T s) := by
  unfold exitR
  rw [abreast_eq, Bool.and_comm]
  congr 1
  rw [Bool.eq_iff_iff, decide_eq_true_eq, bne_iff_ne, List.length_pos_iff_exists_mem]
  have := low_ne (SetM.low_lt s)
  rw [low_in hs] at this
  constructor
  · rintro ⟨q, hq⟩ rfl
    rw [SetM.mem_list] at hq
    exact (this.2 ⟨q, hq⟩) rfl
  · intro h
    obtain ⟨q, hq⟩ := this.1 (fun e => h (by rw [← low_in hs, e]; rfl))
    exact ⟨q, (SetM.mem_list _ _).2 hq⟩
theorem rail_eq {T : Tab} (h : InR T) (hc : T.conflict.length = 8) {r : Rl} (hr : Rl.may r = true) : railOk T r = !railBad T r := by
  unfold Rl.may at hr
  rw [Bool.and_eq_true, Bool.and_eq_true, allIn_iff, allIn_iff, allIn_iff] at hr
  obtain ⟨h1, h2, h3⟩ := hr
  have hb := h1 r.bars (by simp)
  have hcl := h1 r.clear (by simp)
  have hd := h1 r.dwell (by simp)
  have he := h1 r.exit (by simp)
  have hho := h2 r.hold (by simp)
  have hmo := h2 r.most (by simp)
  have ho : 0 ≤ or4 r ∧ or4 r ≤ 255 := or_in (or_in (or_in hb hcl) hd) he
  unfold railOk railBad timesBad
  rw [inR_eq ho, ← clash_eq h hc hcl, ← clash_eq h hc hd, ← clash_eq h hc he, exit_eq he]
  generalize allOn T (or4 r) = a
  generalize clashC T r.clear = c1
  generalize clashC T r.dwell = c2
  generalize clashC T r.exit = c3
  generalize abreast T r.exit = b
  generalize bits .and .i64 r.dwell r.bars = x
  obtain ⟨bars, clear, dwell, exit, delay, green, foot, hold, stay, most, limit⟩ := r
  simp only at *
  clear h1 h2 h3 ho
  have e0 : (hold == 0) = !decide (0 < hold) := by rw [Bool.eq_iff_iff]; simp; omega
  have e1 : decide (0 < most) = !(most == 0) := by rw [Bool.eq_iff_iff]; simp; omega
  rw [e0, e1, lt_dec green 1, lt_dec stay 1, lt_dec most stay, lt_dec delay limit]
  simp only [bne]
  generalize decide (0 < hold) = g0
  generalize (clear == 0) = g1
  generalize decide (1 ≤ green) = g2
  generalize decide (1 ≤ stay) = g3
  generalize (most == 0) = g4
  generalize decide (stay ≤ most) = g5
  generalize decide (limit ≤ delay) = g6
  generalize (dwell == 0) = g7
  generalize (exit == 0) = g8
  generalize (x == 0) = g9
  have e2 : (g0 == !g1) = ((!g0) == g1) := by revert g0 g1; decide
  rw [e2]
  generalize ((!g0) == g1) = k
  simp only [Bool.not_or, Bool.not_and, Bool.not_not]
  ac_rfl
end Go.Proofs.Ytfekngnfjemgeaa.ChkX
/- The contracts of the document's own in, phase, flash and conflict. -/
namespace Go.Proofs.Ytfekngnfjemgeaa.RkA
open Go.ChangeShapes Go.WideShapes Go.ChangeAt Go.RowKit
open Tab PlaceM PlanM OnS ChkM ChkI
open RefS (rlist_any rhas_any row_of)
open May (ret_bool infoT infoP)
set_option linter.unusedVariables false
set_option linter.unusedSimpArgs false
theorem in_any (a b : Int) (w : World) : Calls Try.prog 51 #[.int .i64 a, .int .i64 b] w fun e w' => e = .returned (.bool (inR a b)) ∧ w = w' := by
  have HR : Hid (inR a b = (bits .and .i64 (bits .andNot .i64 a b) 255 == 0)) := Lib.hid rfl
  generalize inR a b = x at HR ⊢
  go_enter Try.func51, Try.ntmps51
  go_wp2
  go_ret
  exact ⟨ret_bool HR.out.symm, rfl⟩
set_option maxRecDepth 100000 in
set_option maxHeartbeats 4000000 in
theorem phase_any (ph : Ph) (w : World) :
    Calls Try.prog 46 #[.agg ph.cells.toArray] w fun e w' => e = .returned (.bool (phOk ph)) ∧ Below w.heap.size w w' := by
  obtain ⟨x, hx⟩ : ∃ x, x = phOk ph := ⟨_, rfl⟩
  rw [← hx]
  have HR := Lib.hid hx
  clear hx
  have E : Hid (Below w.heap.size w (w.alloc (.cells ph.cells.toArray 24))) := Lib.hid ((Below.refl _ _).alloc (Nat.le_refl _) _)
  obtain ⟨q1, q3, q4, q5, q6, q8, q9, q10⟩ := ChkB.phase_cells ph _ _ (heap_alloc_new w (.cells ph.cells.toArray 24))
  have hone := Ph.one ph
  have hsz : ph.cells.toArray.size = 13 := rfl
  generalize ph.cells.toArray = cs at *
  go_enter Try.func46, Try.ntmps46
  go_upto_region 1 with fail
  generalize w.alloc (.cells cs 24) = u2 at *
  clear hone hsz
  obtain ⟨on, min, gap, max, top, step, yellow, red, walk, blinks, recall, lock, rest⟩ := ph
  simp only at *
  go_wp2
  all_goals go_ret
  all_goals (refine ⟨ret_bool ?_, E.out⟩)
  all_goals (rw [HR.out]; unfold phOk; dsimp only)
  all_goals (clear HR q1 q3 q4 q5 q6 q8 q9 q10 E)
  all_goals (first | grind | (simp_all <;> omega))
set_option maxRecDepth 100000 in
set_option maxHeartbeats 4000000 in
theorem flash_any (T : Tab) (h : Hd) (k : Nat) (hk : k < 8) (w : World) (ht : IsTab w h T) :
    Calls Try.prog 52 #[.agg (T.cells h).toArray, .int .i64 k, .int .i64 (onS T : Nat)] w fun e w' => e = .returned (.bool (flashOk T k)) ∧ Below w.heap.size w w' := by
  have hsz := (cells_ok ht).size
  have BX0 := Lib.hid (bxd_new ht)
  have A0 : Hid (Below w.heap.size w (w.alloc (.cells (T.cells h).toArray 32))) := Lib.hid ((Below.refl _ _).alloc (Nat.le_refl _) _)
  obtain ⟨x, hx⟩ : ∃ x, x = flashOk T k := ⟨_, rfl⟩
  rw [← hx]
  have HR : Hid (x = (flAt T k != 0 && !(ons T).any (flashR T k))) := Lib.hid hx
  have FR : Hid (∀ q, flashR T k q = (flAt T k == 2 && (flAt T q == 2 && SetM.has (cfAt T k) q))) := Lib.hid (fun q => rfl)
  have BD := Lib.hid (fun q (hq : q ∈ ons T) => SetM.list_bd _ q hq)
  have HL := Lib.hid (show (ons T).length ≤ 8 from SetM.list_len _)
  have OL : Hid (SetM.list (onS T : Nat) = ons T) := Lib.hid rfl
  generalize ons T = L at *
  clear ht hx
  generalize T.cells h = c at *
  have hki : ((k : Nat) : Int) < 8 := by omega
  go_enter Try.func52, Try.ntmps52
  go_upto_region 1 with fail
  generalize w.alloc (.cells c.toArray 32) = u at A0 BX0 ⊢
  clear hsz
  have cf := BX0.out.fl k (by omega) (by omega)
  rw [Int.toNat_natCast] at cf
  generalize hfk : flAt T k = fk at *
  by_cases h0 : fk = 0
  · subst h0
    have HX : Hid (false = x) := Lib.hid (by rw [HR.out]; rfl)
    go_wp2
    go_ret
    exact ⟨ret_bool HX.out, A0.out⟩
  have HX : Hid (x = !L.any (flashR T k)) := Lib.hid (by rw [HR.out, bne_iff_ne.2 h0]; rfl)
  clear HR
  go_wp2_with fail
  refine (rlist_any _ _).mono ?_
  rintro e u1 ⟨v, rfl, hown, hb⟩
  rw [OL.out] at hown
  obtain ⟨a, cap, rfl, hrow⟩ := row_of hown
  have HROW := Lib.hid hrow
  have B0 : Hid (Below w.heap.size w u1) := Lib.hid (A0.out.trans (hb.mono A0.out.size))
  have BX := Lib.hid (BX0.out.below hb)
  clear hown hrow hb A0 BX0 cf
  have hl8 := HL.out
  go_wp2_with fail
  go_loopw [17] (fun i wr => ∃ q : Nat, q ≤ L.length ∧ i = .int .i64 q ∧ (∀ j, j < q → flashR T k (L.getD j 0) = false) ∧ wr = u1) (fun i _ => L.length - (intOf i).toNat)
  case atStart => exact ⟨0, by omega, rfl, (fun j h => by omega), rfl⟩
  case round =>
    obtain ⟨q, hq, rfl, hall, rfl⟩ := hrel
    rename World => wg
    have HA := Lib.hid hall
    clear hall
    by_cases hlt : q < L.length
    · obtain ⟨y, rfl, hcells⟩ := HROW.out.cells hlt
      have cq := hcells q hlt
      have hmem : L.getD q 0 ∈ L := by rw [List.getD_eq_getElem?_getD, List.getElem?_eq_getElem hlt]; exact List.getElem_mem hlt
      have hbd := BD.out _ hmem
      generalize hz : L.getD q 0 = z at *
      have HZ := Lib.hid hz
      have HM := Lib.hid hmem
      clear hcells hz hmem
      obtain ⟨j, rfl⟩ := Int.eq_ofNat_of_zero_le hbd.1
      have hj8 : ((j : Nat) : Int) < 8 := hbd.2
      have fk' := BX.out.fl k (by omega) (by omega)
      have fj := BX.out.fl j (by omega) (by omega)
      have ck := BX.out.cf k (by omega) (by omega)
      rw [Int.toNat_natCast] at fk' fj ck
      rw [hfk] at fk'
      have FQ : Hid (flashR T k j = (fk == 2 && (flAt T j == 2 && SetM.has (cfAt T k) j))) := Lib.hid (FR.out j)
      have NEXT : Hid (flashR T k j = false → ∀ i, i < q + 1 → flashR T k (L.getD i 0) = false) := Lib.hid (fun e i hi => by
        by_cases h1 : i = q
        · subst h1; rw [HZ.out]; exact e
        · exact HA.out i (by omega))
      have STOP : Hid (flashR T k j = true → false = x) := Lib.hid (fun e => by
        rw [HX.out, List.any_eq_true.2 ⟨_, HM.out, e⟩]; rfl)
      generalize flAt T j = fq at *
      obtain ⟨hs, hhs⟩ : ∃ z, SetM.has (cfAt T k) j = z := ⟨_, rfl⟩
      rw [hhs] at FQ
      have HHS := Lib.hid hhs
      clear hhs FR
      by_cases h2 : fk = 2
      · by_cases h3 : fq = 2
        · subst h2 h3
          have FV : Hid (flashR T k j = hs) := Lib.hid (by rw [FQ.out]; rfl)
          go_wp2_with fail
          refine (rhas_any _ _ _).mono ?_
          rintro e w' ⟨rfl, rfl⟩
          rw [HHS.out]
          cases hs with
          | true =>
            have SX := Lib.hid (STOP.out FV.out)
            go_wp2
            go_ret
            exact ⟨ret_bool SX.out, B0.out⟩
          | false =>
            have NX := Lib.hid (NEXT.out FV.out)
            go_wp2
            go_roundw
            case rel => exact ⟨q + 1, by omega, by go_num, NX.out, trivial⟩
            case measure => simp [intOf]; omega
        · have NX := Lib.hid (NEXT.out (by rw [FQ.out, beq_eq_false_iff_ne.2 h3]; simp))
          subst h2
          have H3 := Lib.hid h3
          go_wp2
          go_roundw
          case rel => exact ⟨q + 1, by omega, by go_num, NX.out, trivial⟩
          case measure => simp [intOf]; omega
      · have NX := Lib.hid (NEXT.out (by rw [FQ.out, beq_eq_false_iff_ne.2 h2]; simp))
        go_wp2
        go_roundw
        case rel => exact ⟨q + 1, by omega, by go_num, NX.out, trivial⟩
        case measure => simp [intOf]; omega
    · have SX : Hid (true = x) := Lib.hid (by
        rw [HX.out, List.any_eq_false.2]
        · rfl
        · intro z hz
          obtain ⟨i, hi, rfl⟩ := List.getElem_of_mem hz
          have := HA.out i (by omega)
          rw [List.getD_eq_getElem?_getD, List.getElem?_eq_getElem hi] at this
          simpa using this)
      go_wp2
      go_ret
      exact ⟨ret_bool SX.out, B0.out⟩
set_option maxRecDepth 100000 in
set_option maxHeartbeats 8000000 in
theorem conflict_any (T : Tab) (h : Hd) (k : Nat) (hk : k < 8) (w : World) (ht : IsTab w h T) (sm : Few T) :
    Calls Try.prog 48 #[.agg (T.cells h).toArray, .int .i64 k, .int .i64 (onS T : Nat)] w fun e w' => e = .returned (.bool (confOk T k)) ∧ Below w.heap.size w w' := by
  have hsz := (cells_ok ht).size
  have IA : Hid ((Try.prog.info? 32).map (·.size) = some (T.cells h).length) := Lib.hid (by rw [List.size_toArray] at hsz; rw [hsz]; exact infoT)
  have BS : Hid (∀ (q : Int) W, Below w.heap.size w W → Calls Try.prog 18 #[.agg (T.cells h).toArray, .int .i64 k, .int .i64 q] W fun e w' => e = .returned (.bool (beside T k q)) ∧ Below W.heap.size W w') := Lib.hid (fun q W hb => Where.beside_any T h k q W (ht.below hb) sm)
  have BX0 := Lib.hid (bxd_new ht)
  have LT0 := Lib.hid (Row.lies_new w (T.cells h).toArray 32)
  have A0 : Hid (Below w.heap.size w (w.alloc (.cells (T.cells h).toArray 32))) := Lib.hid ((Below.refl _ _).alloc (Nat.le_refl _) _)
  obtain ⟨x, hx⟩ : ∃ x, x = confOk T k := ⟨_, rfl⟩
  rw [← hx]
  have HX : Hid (x = !(ons T).any (confR T k)) := Lib.hid hx
  have FR : Hid (∀ q, confR T k q = ((SetM.has (cfAt T k) q && q == k) || ((SetM.has (cfAt T k) q != SetM.has (cfAt T q) k) || (SetM.has (cfAt T k) q && beside T k q)))) := Lib.hid (fun q => rfl)
  have BD := Lib.hid (fun q (hq : q ∈ ons T) => SetM.list_bd _ q hq)
  have HL := Lib.hid (show (ons T).length ≤ 8 from SetM.list_len _)
  have OL : Hid (SetM.list (onS T : Nat) = ons T) := Lib.hid rfl
  generalize ons T = L at *
  clear ht hx
  generalize T.cells h = c at *
  have hki : ((k : Nat) : Int) < 8 := by omega
  go_enter Try.func48, Try.ntmps48
  go_upto_region 1 with fail
  generalize w.alloc (.cells c.toArray 32) = u at A0 BX0 LT0 ⊢
  clear hsz
  go_wp2_with fail
  refine (rlist_any _ _).mono ?_
  rintro e u1 ⟨v, rfl, hown, hb⟩
  rw [OL.out] at hown
  obtain ⟨a, cap, rfl, hrow⟩ := row_of hown
  have HROW := Lib.hid hrow
  have B0 : Hid (Below w.heap.size w u1) := Lib.hid (A0.out.trans (hb.mono A0.out.size))
  have BX1 := Lib.hid (BX0.out.below hb)
  have LT1 := Lib.hid (LT0.out.below hb)
  clear hown hrow hb A0 BX0 LT0
  have hl8 := HL.out
  go_wp2_with fail
  go_loopw [13] (fun i wr => ∃ q : Nat, q ≤ L.length ∧ i = .int .i64 q ∧ (∀ j, j < q → confR T k (L.getD j 0) = false) ∧ Below u1.heap.size u1 wr) (fun i _ => L.length - (intOf i).toNat)
  case atStart => exact ⟨0, by omega, rfl, (fun j h => by omega), Below.refl _ _⟩
  case round =>
    obtain ⟨q, hq, rfl, hall, hB⟩ := hrel
    have HA := Lib.hid hall
    have HB := Lib.hid hB
    have BW : Hid (Below w.heap.size w wr) := Lib.hid (B0.out.trans (hB.mono B0.out.size))
    have BX := Lib.hid (BX1.out.below hB)
    have LT := Lib.hid (LT1.out.below hB)
    have HROW := Lib.hid (HROW.out.below hB)
    clear hall hB
    by_cases hlt : q < L.length
    · obtain ⟨y, rfl, hcells⟩ := HROW.out.cells hlt
      have cq := hcells q hlt
      have hmem : L.getD q 0 ∈ L := by rw [List.getD_eq_getElem?_getD, List.getElem?_eq_getElem hlt]; exact List.getElem_mem hlt
      have hbd := BD.out _ hmem
      generalize hz : L.getD q 0 = z at *
      have HZ := Lib.hid hz
      have HM := Lib.hid hmem
      clear hcells hz hmem
      obtain ⟨j, rfl⟩ := Int.eq_ofNat_of_zero_le hbd.1
      have hj8 : ((j : Nat) : Int) < 8 := hbd.2
      have cj := BX.out.cf j (by omega) (by omega)
      have ck := BX.out.cf k (by omega) (by omega)
      rw [Int.toNat_natCast] at cj ck
      have FQ := Lib.hid (FR.out j)
      have NEXT : Hid (confR T k j = false → ∀ i, i < q + 1 → confR T k (L.getD i 0) = false) := Lib.hid (fun e i hi => by
        by_cases h1 : i = q
        · subst h1; rw [HZ.out]; exact e
        · exact HA.out i (by omega))
      have STOP : Hid (confR T k j = true → false = x) := Lib.hid (fun e => by
        rw [HX.out, List.any_eq_true.2 ⟨_, HM.out, e⟩]; rfl)
      obtain ⟨ha, hha⟩ : ∃ z, SetM.has (cfAt T k) j = z := ⟨_, rfl⟩
      obtain ⟨hb, hhb⟩ : ∃ z, SetM.has (cfAt T j) k = z := ⟨_, rfl⟩
      obtain ⟨bs, hbs⟩ : ∃ z, beside T k j = z := ⟨_, rfl⟩
      rw [hha, hhb, hbs] at FQ
      have BSJ := Lib.hid (BS.out j)
      rw [hbs] at BSJ
      have HHA := Lib.hid hha
      have HHB := Lib.hid hhb
      clear hha hhb hbs FR BS BD
      go_wp2_with fail
      refine (rhas_any _ _ _).mono ?_
      rintro e w' ⟨rfl, rfl⟩
      rw [HHA.out]
      cases ha with
      | false =>
        go_wp2_with fail
        refine (rhas_any _ _ _).mono ?_
        rintro e w' ⟨rfl, rfl⟩
        rw [HHB.out]
        cases hb with
        | true =>
          have SX := Lib.hid (STOP.out (by rw [FQ.out]; simp))
          go_wp2
          go_ret
          exact ⟨ret_bool SX.out, BW.out⟩
        | false =>
          have NX := Lib.hid (NEXT.out (by rw [FQ.out]; simp))
          go_wp2
          go_roundw
          case rel => exact ⟨q + 1, by omega, by go_num, NX.out, HB.out⟩
          case measure => simp [intOf]; omega
      | true =>
        by_cases hjk : ((j : Nat) : Int) = (k : Int)
        · have SX := Lib.hid (STOP.out (by rw [FQ.out, hjk]; simp))
          have hjb : (((j : Nat) : Int) == (k : Int)) = true := by rw [beq_iff_eq]; exact hjk
          clear hjk
          go_wp2
          go_ret
          exact ⟨ret_bool SX.out, BW.out⟩
        · have HJ := Lib.hid hjk
          have hjb : (((j : Nat) : Int) == (k : Int)) = false := by rw [beq_eq_false_iff_ne]; exact hjk
          have HJB := Lib.hid hjb
          clear hjb
          go_wp2_with fail
          refine (rhas_any _ _ _).mono ?_
          rintro e w' ⟨rfl, rfl⟩
          rw [HHB.out]
          cases hb with
          | false =>
            have SX := Lib.hid (STOP.out (by rw [FQ.out]; simp))
            go_wp2
            go_ret
            exact ⟨ret_bool SX.out, BW.out⟩
          | true =>
            go_wp2_with (refine Row.wpList_load_g 32 _ rfl (by first | rfl | go_simp) ⟨w.heap.size, 0, none⟩ rfl c _ LT.out Try.underlying32 rfl IA.out ?_)
            (try go_wp2_with fail)
            refine (BSJ.out _ BW.out).mono ?_
            rintro e u3 ⟨rfl, hb3⟩
            have HB3 := Lib.hid (HB.out.trans (hb3.mono HB.out.size))
            have BW3 : Hid (Below w.heap.size w u3) := Lib.hid (BW.out.trans (hb3.mono BW.out.size))
            clear hb3
            have FV : Hid (confR T k j = bs) := Lib.hid (by rw [FQ.out, HJB.out]; simp)
            cases bs with
            | true =>
              have SX := Lib.hid (STOP.out FV.out)
              go_wp2
              go_ret
              exact ⟨ret_bool SX.out, BW3.out⟩
            | false =>
              have NX := Lib.hid (NEXT.out FV.out)
              go_wp2
              go_roundw
              case rel => exact ⟨q + 1, by omega, by go_num, NX.out, HB3.out⟩
              case measure => simp [intOf]; omega
    · have SX : Hid (true = x) := Lib.hid (by
        rw [HX.out, List.any_eq_false.2]
        · rfl
        · intro z hz
          obtain ⟨i, hi, rfl⟩ := List.getElem_of_mem hz
          have := HA.out i (by omega)
          rw [List.getD_eq_getElem?_getD, List.getElem?_eq_getElem hi] at this
          simpa using this)
      go_wp2
      go_ret
      exact ⟨ret_bool SX.out, BW.out⟩
end Go.Proofs.Ytfekngnfjemgeaa.RkA
/- The contract of the document's own rings. -/
namespace Go.Proofs.Ytfekngnfjemgeaa.RkR
open Go.ChangeShapes Go.WideShapes Go.ChangeAt Go.RowKit
open Tab PlaceM PlanM OnS ChkM ChkH
open ChkB (laid2)
open Same (below_setRow)
open Where (infoS)
open RefS (rhas_any rwith_any)
open May (ret_bool infoT)
set_option linter.unusedVariables false
set_option linter.unusedSimpArgs false
theorem fold_cons (on : Int) (g : Nat) (S : List Spt) (j : Nat) (x : Spt) (h : S[j]? = some x) (st : Nat × Nat) : foldR on g (S.drop j) st = foldR on g (x :: S.drop (j + 1)) st := by
  obtain ⟨h1, h2⟩ := List.getElem?_eq_some_iff.1 h
  rw [List.drop_eq_getElem_cons h1, h2]
theorem fold_other {on : Int} {g n s : Nat} {x : Spt} {l : List Spt} (h : ¬ x.g = g) : foldR on g (x :: l) (n, s) = foldR on g l (n, s) := by unfold foldR; rw [if_neg h]; cases l <;> rfl
theorem fold_bad {on : Int} {g n s : Nat} {x : Spt} {l : List Spt} (h : x.g = g) (hb : (!SetM.has on x.p || SetM.has (s : Nat) x.p) = true) : foldR on g (x :: l) (n, s) = none := by unfold foldR; rw [if_pos h, if_pos hb]
theorem fold_good {on : Int} {g n s : Nat} {x : Spt} {l : List Spt} (h : x.g = g) (hb : (!SetM.has on x.p || SetM.has (s : Nat) x.p) = false) : foldR on g (x :: l) (n, s) = foldR on g l (n + 1, SetM.withN (s : Nat) x.p) := by
  rw [foldR, if_pos h, if_neg (by rw [hb]; simp)]
theorem loop_none {T : Tab} {m g seen : Nat} (h : foldR (onS T : Nat) g (spots T) (0, seen) = none) : loopR T (m + 1) g seen = some (g : Int) := by rw [loopR, h]
theorem loop_zero {T : Tab} {m g seen s : Nat} (h : foldR (onS T : Nat) g (spots T) (0, seen) = some (0, s)) : loopR T (m + 1) g seen = some (g : Int) := by rw [loopR, h]; rfl
theorem loop_next {T : Tab} {m g seen n s : Nat} (h : foldR (onS T : Nat) g (spots T) (0, seen) = some (n, s)) (hn : ¬ n = 0) : loopR T (m + 1) g seen = loopR T m (g + 1) s := by rw [loopR, h]; exact if_neg hn
set_option maxRecDepth 100000 in
set_option maxHeartbeats 8000000 in
theorem rrings_any (T : Tab) (h : Hd) (w : World) (ht : IsTab w h T) (sm : Few T) :
    Calls Try.prog 47 #[.agg (T.cells h).toArray] w fun e w' => e = .returned (.agg (fltC 8 (ringsR T))) ∧ Below w.heap.size w w' := by
  have hsz := (cells_ok ht).size
  have C := Lib.hid (cells_ok ht)
  have IA : Hid ((Try.prog.info? 32).map (·.size) = some (T.cells h).length) := Lib.hid (by rw [List.size_toArray] at hsz; rw [hsz]; exact infoT)
  have ON : Hid (∀ W, Below w.heap.size w W → Calls Try.prog 44 #[.agg (T.cells h).toArray] W fun e w' => e = .returned (.int .i64 (onS T : Nat)) ∧ Below W.heap.size W w') := Lib.hid (fun W hb => OnS.on_any T h W (ht.below hb))
  have SPC : Hid (∀ W, Below w.heap.size w W → Calls Try.prog 97 #[.agg (T.cells h).toArray] W fun e w' => ∃ s : Sl, e = .returned (s.val (spots T).length) ∧ RowOf 4 Spt.cells w' s (spots T) ∧ Below W.heap.size W w') := Lib.hid (fun W hb => Spots.spots_any T h W (ht.below hb) sm)
  have A0 : Hid (Below w.heap.size w ((w.alloc (.cells (T.cells h).toArray 32)).alloc (.cells #[.int .i64 0, .int .i64 0] 49))) := Lib.hid (((Below.refl _ _).alloc (Nat.le_refl _) _).alloc (by simp) _)
  have A1 : Hid (Lies ((w.alloc (.cells (T.cells h).toArray 32)).alloc (.cells #[.int .i64 0, .int .i64 0] 49)) ⟨w.heap.size, 0, none⟩ (T.cells h)) := Lib.hid ((Row.lies_new w _ _).below ((Below.refl _ _).alloc (Nat.le_refl _) _))
  have A2 : Hid (((w.alloc (.cells (T.cells h).toArray 32)).alloc (.cells #[.int .i64 0, .int .i64 0] 49)).heap[w.heap.size + 1]? = some (.cells #[.int .i64 0, .int .i64 0] 49 (0, 0))) := Lib.hid (heap_alloc2_new w _ _)
  have q104 : ((w.alloc (.cells (T.cells h).toArray 32)).alloc (.cells #[.int .i64 0, .int .i64 0] 49)).cell? ⟨w.heap.size, 104, none⟩ = some (.slice h.g.a T.groups.length h.g.cap) := A1.out 104 _ ((Array.getElem?_toList ..).trans C.out.g)
  have Kg : T.groups.length ≤ maxLen := by
    obtain ⟨gs, hgd, hgr⟩ := ht.groups
    have := hgr.1.len
    rw [← hgd, List.length_map]; omega
  unfold maxLen at Kg
  obtain ⟨o, ho⟩ : ∃ o, o = ringsR T := ⟨_, rfl⟩
  rw [← ho]
  have RC : Hid (o = if T.groups.length = 0 then some 0 else loopR T T.groups.length 0 0) := Lib.hid ho
  have OL : Hid (onS T < 256) := Lib.hid (SetM.of_lt _)
  have F1 : Hid (∀ {m g seen : Nat}, foldR (onS T : Nat) g (spots T) (0, seen) = none → loopR T (m + 1) g seen = some (g : Int)) := Lib.hid loop_none
  have F2 : Hid (∀ {m g seen s : Nat}, foldR (onS T : Nat) g (spots T) (0, seen) = some (0, s) → loopR T (m + 1) g seen = some (g : Int)) := Lib.hid loop_zero
  have F3 : Hid (∀ {m g seen n s : Nat}, foldR (onS T : Nat) g (spots T) (0, seen) = some (n, s) → ¬ n = 0 → loopR T (m + 1) g seen = loopR T m (g + 1) s) := Lib.hid loop_next
  have F4 : Hid (∀ g seen, loopR T 0 g seen = if seen = onS T then none else some 0) := Lib.hid (fun _ _ => rfl)
  clear ho ht C sm
  generalize T.groups.length = n at *
  generalize h.g.cap = gcap at *
  generalize h.g.a = ga at *
  generalize T.cells h = c at *
  generalize loopR T = lr at *
  generalize spots T = S at *
  generalize onS T = on at *
  go_enter Try.func47, Try.ntmps47
  go_upto_region 1 with fail
  generalize ((w.alloc (.cells c.toArray 32)).alloc (.cells #[.int .i64 0, .int .i64 0] 49)) = u at A0 A1 A2 q104 ⊢
  have Q104 := Lib.hid q104
  clear hsz
  by_cases hz : n = 0
  · subst hz
    have RO : Hid (o = some 0) := Lib.hid (by rw [RC.out]; rfl)
    clear RC
    have HW := Lib.hid (below_setRow A0.out (g := w.heap.size + 1) (by omega) #[I 8, I 0])
    have HK := Lib.hid (setRow_heap u (w.heap.size + 1) _ #[I 8, I 0] _ _ A2.out)
    go_wp2_with (first | (refine wpList_store_row rfl 49 _ _ rfl (w.heap.size + 1) #[I 8, I 0] rfl rfl 49 _ A2.out infoF rfl (by simp [Value.oneCell']) ?_))
    generalize u.setRow (w.heap.size + 1) #[I 8, I 0] = uz at HW HK ⊢
    (try go_wp2_with fail)
    (try simp only [Exit.inBlock, Exit.then])
    refine bodyPost_ret (v := .agg #[I 8, I 0]) ?_ rfl ⟨by rw [RO.out]; rfl, HW.out⟩
    exact results_cell_row rfl _ _ (w.heap.size + 1) 49 _ (0, 0) _ rfl HK.out Try.underlying49 rfl infoF
  · have hzi : ((n : Int) == 0) = false := by rw [beq_eq_false_iff_ne]; omega
    have hzj : ¬ ((n : Int) = 0) := by omega
    have RC2 : Hid (o = lr n 0 0) := Lib.hid (by rw [RC.out, if_neg hz])
    clear hz RC
    go_wp2_with (refine Row.wpList_load_g 32 _ rfl (by first | rfl | go_simp) ⟨w.heap.size, 0, none⟩ rfl c _ A1.out Try.underlying32 rfl IA.out ?_)
    (try go_wp2_with fail)
    refine (ON.out _ A0.out).mono ?_
    rintro e u1 ⟨rfl, hb⟩
    have B0 : Hid (Below w.heap.size w u1) := Lib.hid (A0.out.trans (hb.mono A0.out.size))
    have B1 := Lib.hid (A1.out.below hb)
    have B2 : Hid (u1.heap[w.heap.size + 1]? = some (.cells #[.int .i64 0, .int .i64 0] 49 (0, 0))) := Lib.hid ((hb.block _ (Array.getElem?_eq_some_iff.1 A2.out).1).trans A2.out)
    have BQ := Lib.hid ((hb.cell (World.block_lt_of_cell? u _ Q104.out)).trans Q104.out)
    clear hb hzi hzj q104 A0 A1 A2 Q104
    go_wp2_with fail
    go_loopw [4, 5] (fun s a wr => ∃ q seen : Nat, q ≤ n ∧ seen < 256 ∧ s = .int .i64 (seen : Nat) ∧ a = .int .i64 q ∧ o = lr (n - q) q seen ∧ Below u1.heap.size u1 wr) (fun _ a _ => n - (intOf a).toNat)
    case atStart => exact ⟨0, 0, by omega, by decide, rfl, rfl, RC2.out, Below.refl _ _⟩
    case round =>
      obtain ⟨q, seen, hq, hseen, rfl, rfl, ho, hB⟩ := hrel
      have HO := Lib.hid ho
      have HSE := Lib.hid hseen
      have C0 : Hid (Below w.heap.size w wr) := Lib.hid (B0.out.trans (hB.mono B0.out.size))
      have C1 := Lib.hid (B1.out.below hB)
      have C2 : Hid (wr.heap[w.heap.size + 1]? = some (.cells #[.int .i64 0, .int .i64 0] 49 (0, 0))) := Lib.hid ((hB.block _ (Array.getElem?_eq_some_iff.1 B2.out).1).trans B2.out)
      have q104 := (hB.cell (World.block_lt_of_cell? u1 _ BQ.out)).trans BQ.out
      have C3 := Lib.hid hB
      clear ho hB hseen RC2
      by_cases hlt : q < n
      · obtain ⟨m, hm⟩ : ∃ m, n - q = m + 1 := ⟨n - q - 1, by omega⟩
        have HM : Hid (n - (q + 1) = m) := Lib.hid (by omega)
        have HO2 : Hid (o = lr (m + 1) q seen) := Lib.hid (by rw [← hm]; exact HO.out)
        clear hm HO
        go_wp2_with (refine Row.wpList_load_g 32 _ rfl (by first | rfl | go_simp) ⟨w.heap.size, 0, none⟩ rfl c _ C1.out Try.underlying32 rfl IA.out ?_)
        (try go_wp2_with fail)
        refine (SPC.out _ C0.out).mono ?_
        rintro e u2 ⟨⟨sa, scap⟩, rfl, hrow, hb⟩
        rw [show (Sl.val ⟨sa, scap⟩ S.length) = .slice sa S.length scap from rfl]
        have D0 : Hid (Below w.heap.size w u2) := Lib.hid (C0.out.trans (hb.mono C0.out.size))
        have D2 : Hid (u2.heap[w.heap.size + 1]? = some (.cells #[.int .i64 0, .int .i64 0] 49 (0, 0))) := Lib.hid ((hb.block _ (Array.getElem?_eq_some_iff.1 C2.out).1).trans C2.out)
        have D3 := Lib.hid (C3.out.trans (hb.mono C3.out.size))
        have HR := Lib.hid hrow
        have K := hrow.len
        unfold maxLen at K
        clear hrow hb q104 C0 C1 C2 C3
        go_wp2_with fail
        go_loopw [4, 6, 26] (fun s a i wk => ∃ j k sn : Nat, j ≤ S.length ∧ k ≤ j ∧ sn < 256 ∧ s = .int .i64 (sn : Nat) ∧ a = .int .i64 (k : Nat) ∧ i = .int .i64 j ∧ foldR on q S (0, seen) = foldR on q (S.drop j) (k, sn) ∧ Below u2.heap.size u2 wk) (fun _ _ i _ => S.length - (intOf i).toNat)
        case atStart => exact ⟨0, 0, seen, by omega, by omega, HSE.out, rfl, rfl, rfl, rfl, Below.refl _ _⟩
        case round =>
          obtain ⟨j, k, sn, hj, hkj, hsn, rfl, rfl, rfl, hf, hB2⟩ := hrel
          rename World => wk
          have HF := Lib.hid hf
          have HSN := Lib.hid hsn
          have HB2 := Lib.hid hB2
          have G0 : Hid (Below w.heap.size w wk) := Lib.hid (D0.out.trans (hB2.mono D0.out.size))
          have G2 : Hid (wk.heap[w.heap.size + 1]? = some (.cells #[.int .i64 0, .int .i64 0] 49 (0, 0))) := Lib.hid ((hB2.block _ (Array.getElem?_eq_some_iff.1 D2.out).1).trans D2.out)
          clear hf hB2 hsn
          by_cases hjl : j < S.length
          · have hv := List.getElem?_eq_getElem hjl
            generalize S[j] = x at hv
            obtain ⟨y, hy, hc⟩ := (HR.out.below HB2.out).at hv
            obtain rfl : sa = some y := hy
            have FC := Lib.hid (HF.out.trans (fold_cons on q S j x hv (k, sn)))
            have HC := Lib.hid hc
            clear hv hc HF
            obtain ⟨xg, xk, xi, xp⟩ := x
            have hwk := HB2.out.size
            go_upto_region 12 with (first | (refine Row.wpList_load_g 89 _ rfl (by first | rfl | go_simp) (y.add (j * 4)) rfl (Spt.cells ⟨xg, xk, xi, xp⟩) _ HC.out Try.underlying89 rfl infoS ?_) | (refine Row.wpList_store_new rfl 89 _ _ rfl wk _ (Spt.cells ⟨xg, xk, xi, xp⟩).toArray rfl rfl rfl infoS rfl (Spt.one _) ?_))
            have hbn : Below u2.heap.size u2 (wk.alloc (.cells (Spt.cells ⟨xg, xk, xi, xp⟩).toArray 89)) := HB2.out.alloc hwk _
            have hgn := heap_alloc_new wk (.cells (Spt.cells ⟨xg, xk, xi, xp⟩).toArray 89)
            have d0 : (wk.alloc (.cells (Spt.cells ⟨xg, xk, xi, xp⟩).toArray 89)).cell? ⟨wk.heap.size, 0, none⟩ = some (I xg) := by rw [cell_of_row _ _ _ _ _ _ hgn]; rfl
            have d3 : (wk.alloc (.cells (Spt.cells ⟨xg, xk, xi, xp⟩).toArray 89)).cell? ⟨wk.heap.size, 3, none⟩ = some (I xp) := by rw [cell_of_row _ _ _ _ _ _ hgn]; rfl
            have HN := Lib.hid hbn
            have G0' : Hid (Below w.heap.size w (wk.alloc (.cells (Spt.cells ⟨xg, xk, xi, xp⟩).toArray 89))) := Lib.hid (G0.out.alloc G0.out.size _)
            clear hbn hgn HC G0
            generalize hxc : (Spt.cells ⟨xg, xk, xi, xp⟩) = xc at *
            clear hxc
            generalize wk.alloc (.cells xc.toArray 89) = w4 at HN d0 d3 G0' ⊢
            generalize wk.heap.size = b4 at d0 d3 ⊢
            have D3X := Lib.hid d3
            by_cases hg : ((xg : Nat) : Int) = (q : Int)
            · have hgn : xg = q := by omega
              have FB := Lib.hid (fun e => FC.out.trans (fold_bad (on := on) (n := k) (s := sn) (l := S.drop (j + 1)) (x := ⟨xg, xk, xi, xp⟩) hgn e))
              have FG := Lib.hid (fun e => FC.out.trans (fold_good (on := on) (n := k) (s := sn) (l := S.drop (j + 1)) (x := ⟨xg, xk, xi, xp⟩) hgn e))
              have hgb : (((xg : Nat) : Int) != (q : Int)) = false := by rw [bne_eq_false_iff_eq]; exact hg
              have hgi := hg
              clear hg
              obtain ⟨va, hva⟩ : ∃ z, SetM.has (on : Nat) xp = z := ⟨_, rfl⟩
              obtain ⟨vb, hvb⟩ : ∃ z, SetM.has (sn : Nat) xp = z := ⟨_, rfl⟩
              have HVA := Lib.hid hva
              have HVB := Lib.hid hvb
              have FB := Lib.hid (fun (e : (!va || vb) = true) => FB.out (by rw [← e, ← hva, ← hvb]))
              have FG := Lib.hid (fun (e : (!va || vb) = false) => FG.out (by rw [← e, ← hva, ← hvb]))
              have WL := Lib.hid (SetM.with_lt (sn : Nat) xp)
              clear hva hvb hgi hgn
              have hk62 : ((k : Nat) : Int) < 9223372036854775807 := by omega
              go_wp2_with fail
              refine (rhas_any _ _ _).mono ?_
              rintro e w' ⟨rfl, rfl⟩
              rw [HVA.out]
              cases va with
              | false =>
                have RO : Hid (o = some (q : Int)) := Lib.hid (by rw [HO2.out]; exact F1.out (FB.out rfl))
                have G2' : Hid (w4.heap[w.heap.size + 1]? = some (.cells #[.int .i64 0, .int .i64 0] 49 (0, 0))) := Lib.hid ((HN.out.block _ (Array.getElem?_eq_some_iff.1 D2.out).1).trans D2.out)
                clear d0 d3 hgb
                have HW := Lib.hid (below_setRow G0'.out (g := w.heap.size + 1) (by omega) #[I 8, I q])
                have HK := Lib.hid (setRow_heap w4 (w.heap.size + 1) _ #[I 8, I q] _ _ G2'.out)
                go_wp2_with (first | (refine wpList_store_row rfl 49 _ _ rfl (w.heap.size + 1) #[I 8, I q] rfl rfl 49 _ G2'.out infoF rfl (by simp [Value.oneCell']) ?_))
                generalize w4.setRow (w.heap.size + 1) #[I 8, I q] = uz at HW HK ⊢
                (try go_wp2_with fail)
                (try simp only [Exit.inBlock, Exit.then])
                refine bodyPost_ret (v := .agg #[I 8, I q]) ?_ rfl ⟨by rw [RO.out]; rfl, HW.out⟩
                exact results_cell_row rfl _ _ (w.heap.size + 1) 49 _ (0, 0) _ rfl HK.out Try.underlying49 rfl infoF
              | true =>
                have d3 := D3X.out
                go_wp2_with fail
                refine (rhas_any _ _ _).mono ?_
                rintro e w' ⟨rfl, rfl⟩
                rw [HVB.out]
                cases vb with
                | true =>
                  have RO : Hid (o = some (q : Int)) := Lib.hid (by rw [HO2.out]; exact F1.out (FB.out rfl))
                  have G2' : Hid (w4.heap[w.heap.size + 1]? = some (.cells #[.int .i64 0, .int .i64 0] 49 (0, 0))) := Lib.hid ((HN.out.block _ (Array.getElem?_eq_some_iff.1 D2.out).1).trans D2.out)
                  clear d0 d3 hgb
                  have HW := Lib.hid (below_setRow G0'.out (g := w.heap.size + 1) (by omega) #[I 8, I q])
                  have HK := Lib.hid (setRow_heap w4 (w.heap.size + 1) _ #[I 8, I q] _ _ G2'.out)
                  go_wp2_with (first | (refine wpList_store_row rfl 49 _ _ rfl (w.heap.size + 1) #[I 8, I q] rfl rfl 49 _ G2'.out infoF rfl (by simp [Value.oneCell']) ?_))
                  generalize w4.setRow (w.heap.size + 1) #[I 8, I q] = uz at HW HK ⊢
                  (try go_wp2_with fail)
                  (try simp only [Exit.inBlock, Exit.then])
                  refine bodyPost_ret (v := .agg #[I 8, I q]) ?_ rfl ⟨by rw [RO.out]; rfl, HW.out⟩
                  exact results_cell_row rfl _ _ (w.heap.size + 1) 49 _ (0, 0) _ rfl HK.out Try.underlying49 rfl infoF
                | false =>
                  have NX := Lib.hid (FG.out rfl)
                  clear FB FG FC
                  go_wp2_with fail
                  refine (rwith_any _ _ _).mono ?_
                  rintro e w5 ⟨rfl, hb⟩
                  have HN5 := Lib.hid (HN.out.trans (hb.mono HN.out.size))
                  clear hb d0 d3
                  go_wp2
                  go_roundw
                  case rel => exact ⟨j + 1, k + 1, _, by omega, by omega, WL.out, rfl, by go_num, by go_num, NX.out, HN5.out⟩
                  case measure => simp [intOf]; omega
            · have hgn : ¬ xg = q := by omega
              have NX := Lib.hid (FC.out.trans (fold_other (on := on) (n := k) (s := sn) (l := S.drop (j + 1)) (x := ⟨xg, xk, xi, xp⟩) hgn))
              have hgb : (((xg : Nat) : Int) != (q : Int)) = true := by rw [bne_iff_ne]; exact hg
              have hgi : ¬ ((xg : Nat) : Int) = (q : Int) := hg
              clear hg hgn FC
              go_wp2
              go_roundw
              case rel => exact ⟨j + 1, k, sn, by omega, by omega, HSN.out, rfl, rfl, by go_num, NX.out, HN.out⟩
              case measure => simp [intOf]; omega
          · have FE : Hid (foldR on q S (0, seen) = some (k, sn)) := Lib.hid (by rw [HF.out, List.drop_of_length_le (by omega)]; rfl)
            by_cases hk : k = 0
            · subst hk
              have RO : Hid (o = some (q : Int)) := Lib.hid (by rw [HO2.out]; exact F2.out FE.out)
              have HW := Lib.hid (below_setRow G0.out (g := w.heap.size + 1) (by omega) #[I 8, I q])
              have HK := Lib.hid (setRow_heap wk (w.heap.size + 1) _ #[I 8, I q] _ _ G2.out)
              go_wp2_with (first | (refine wpList_store_row rfl 49 _ _ rfl (w.heap.size + 1) #[I 8, I q] rfl rfl 49 _ G2.out infoF rfl (by simp [Value.oneCell']) ?_))
              generalize wk.setRow (w.heap.size + 1) #[I 8, I q] = uz at HW HK ⊢
              (try go_wp2_with fail)
              (try simp only [Exit.inBlock, Exit.then])
              refine bodyPost_ret (v := .agg #[I 8, I q]) ?_ rfl ⟨by rw [RO.out]; rfl, HW.out⟩
              exact results_cell_row rfl _ _ (w.heap.size + 1) 49 _ (0, 0) _ rfl HK.out Try.underlying49 rfl infoF
            · have hki : ((k : Nat) : Int) ≠ 0 := by omega
              have hkb : (((k : Nat) : Int) == 0) = false := by rw [beq_eq_false_iff_ne]; exact hki
              have NX : Hid (o = lr (n - (q + 1)) (q + 1) sn) := Lib.hid (by rw [HO2.out, HM.out]; exact F3.out FE.out hk)
              have E3 := Lib.hid (D3.out.trans (HB2.out.mono D3.out.size))
              clear hk
              go_wp2
              go_roundw
              case rel => exact ⟨q + 1, sn, by omega, HSN.out, rfl, by go_num, NX.out, E3.out⟩
              case measure => simp [intOf]; omega
      · have hqn : q = n := by omega
        have RL : Hid (o = if seen = on then none else some 0) := Lib.hid (by rw [HO.out, hqn, Nat.sub_self]; exact F4.out _ _)
        by_cases he : ((seen : Nat) : Int) = (on : Int)
        · have heb : (((seen : Nat) : Int) != (on : Int)) = false := by rw [bne_eq_false_iff_eq]; exact he
          have RO : Hid (o = none) := Lib.hid (by rw [RL.out, if_pos (by omega)])
          clear he
          have HW := Lib.hid (below_setRow C0.out (g := w.heap.size + 1) (by omega) #[I 0, I 0])
          have HK := Lib.hid (setRow_heap wr (w.heap.size + 1) _ #[I 0, I 0] _ _ C2.out)
          go_wp2_with (first | (refine wpList_store_row rfl 49 _ _ rfl (w.heap.size + 1) #[I 0, I 0] rfl rfl 49 _ C2.out infoF rfl (by simp [Value.oneCell']) ?_))
          generalize wr.setRow (w.heap.size + 1) #[I 0, I 0] = uz at HW HK ⊢
          (try go_wp2_with fail)
          (try simp only [Exit.inBlock, Exit.then])
          refine bodyPost_ret (v := .agg #[I 0, I 0]) ?_ rfl ⟨by rw [RO.out]; rfl, HW.out⟩
          exact results_cell_row rfl _ _ (w.heap.size + 1) 49 _ (0, 0) _ rfl HK.out Try.underlying49 rfl infoF
        · have heb : (((seen : Nat) : Int) != (on : Int)) = true := by rw [bne_iff_ne]; exact he
          have RO : Hid (o = some 0) := Lib.hid (by rw [RL.out, if_neg (by omega)])
          clear he
          have HW := Lib.hid (below_setRow C0.out (g := w.heap.size + 1) (by omega) #[I 8, I 0])
          have HK := Lib.hid (setRow_heap wr (w.heap.size + 1) _ #[I 8, I 0] _ _ C2.out)
          go_wp2_with (first | (refine wpList_store_row rfl 49 _ _ rfl (w.heap.size + 1) #[I 8, I 0] rfl rfl 49 _ C2.out infoF rfl (by simp [Value.oneCell']) ?_))
          generalize wr.setRow (w.heap.size + 1) #[I 8, I 0] = uz at HW HK ⊢
          (try go_wp2_with fail)
          (try simp only [Exit.inBlock, Exit.then])
          refine bodyPost_ret (v := .agg #[I 8, I 0]) ?_ rfl ⟨by rw [RO.out]; rfl, HW.out⟩
          exact results_cell_row rfl _ _ (w.heap.size + 1) 49 _ (0, 0) _ rfl HK.out Try.underlying49 rfl infoF
end Go.Proofs.Ytfekngnfjemgeaa.RkR
