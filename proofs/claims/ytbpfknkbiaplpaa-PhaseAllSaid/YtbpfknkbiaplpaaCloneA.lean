/- The contract of table.Clone, at any table whose lists are not beyond measure: the same data, in blocks of its own. -/
import Derived.Test.YtbpfknkbiaplpaaRows
import Derived.Test.YtbpfknkbiaplpaaMayE
import Derived.Test.YtbpfknkbiaplpaaFresh
import Derived.Test.YtbpfknkbiaplpaaOwned
namespace Go.Proofs.Ytbpfknkbiaplpaa.Clone
open Go.ChangeShapes Go.WideShapes Go.ChangeAt Go.RowKit
open Tab Copy Owned
open May (chain infoP infoG infoD infoR infoB infoT)
set_option linter.unusedVariables false
set_option linter.unusedSimpArgs false

/-- A group whose rows are blocks of their own. -/
structure NG where
  r0 : List Int
  r1 : List Int
  b0 : Nat
  b1 : Nat
def NG.gr (g : NG) : Gr := ⟨g.r0, g.r1, ⟨some ⟨g.b0, 0, none⟩, g.r0.length⟩, ⟨some ⟨g.b1, 0, none⟩, g.r1.length⟩⟩
def NG.blks (g : NG) : List Blk := [⟨g.b0, g.r0.flatMap (fun n => [I n]), 3⟩, ⟨g.b1, g.r1.flatMap (fun n => [I n]), 3⟩]
structure Small (T : Tab) : Prop where
  groups : T.groups.length ≤ 1000
  rows : ∀ g ∈ T.groups, g.1.length ≤ 1000 ∧ g.2.length ≤ 1000
  dets : T.dets.length ≤ 1000
  rails : T.rails.length ≤ 1000
  buses : T.buses.length ≤ 1000

abbrev at0 (g n : Nat) : Sl := ⟨some ⟨g, 0, none⟩, n⟩
/-- Where a clone's parts lie. -/
def own (T : Tab) (ns : List NG) (G D R S : Nat) : List Blk :=
  ⟨G, (ns.map NG.gr).flatMap Gr.cells, 85⟩ :: ⟨D, T.dets.flatMap Det.cells, 72⟩ :: ⟨R, T.rails.flatMap Rl.cells, 75⟩ :: ⟨S, T.buses.flatMap Bs.cells, 79⟩ :: ns.flatMap NG.blks
def hd (T : Tab) (G D R S : Nat) : Hd := ⟨at0 G T.groups.length, at0 D T.dets.length, at0 R T.rails.length, at0 S T.buses.length⟩

theorem ng_ok {B : Nat} {w : World} {L : List Blk} {ns : List NG} (h : Owned.Own B w L) (hs : ∀ x ∈ ns.flatMap NG.blks, x ∈ L) (hl : ∀ g ∈ ns, g.r0.length ≤ maxLen ∧ g.r1.length ≤ maxLen) : ∀ g ∈ ns.map NG.gr, g.ok w := by
  intro g hg
  obtain ⟨n, hn, rfl⟩ := List.mem_map.1 hg
  have h0 := h.get (hs ⟨n.b0, n.r0.flatMap (fun n => [I n]), 3⟩ (List.mem_flatMap.2 ⟨n, hn, by simp [NG.blks]⟩))
  have h1 := h.get (hs ⟨n.b1, n.r1.flatMap (fun n => [I n]), 3⟩ (List.mem_flatMap.2 ⟨n, hn, by simp [NG.blks]⟩))
  exact ⟨row_of_block (n := 1) (enc := fun n => [I n]) (fun _ => rfl) _ h0 (hl n hn).1, row_of_block (n := 1) (enc := fun n => [I n]) (fun _ => rfl) _ h1 (hl n hn).2⟩
section
variable {T : Tab} {ns : List NG} {G D R S : Nat}
theorem own_g : (⟨G, (ns.map NG.gr).flatMap Gr.cells, 85⟩ : Blk) ∈ own T ns G D R S := List.mem_cons_self ..
theorem own_d : (⟨D, T.dets.flatMap Det.cells, 72⟩ : Blk) ∈ own T ns G D R S := List.mem_cons_of_mem _ (List.mem_cons_self ..)
theorem own_r : (⟨R, T.rails.flatMap Rl.cells, 75⟩ : Blk) ∈ own T ns G D R S := List.mem_cons_of_mem _ (List.mem_cons_of_mem _ (List.mem_cons_self ..))
theorem own_s : (⟨S, T.buses.flatMap Bs.cells, 79⟩ : Blk) ∈ own T ns G D R S := List.mem_cons_of_mem _ (List.mem_cons_of_mem _ (List.mem_cons_of_mem _ (List.mem_cons_self ..)))
end
/-- What a clone is. -/
theorem is_tab {B : Nat} {w : World} {T : Tab} {ns : List NG} {G D R S : Nat} (h1 : T.phases.length = 8) (h2 : T.conflict.length = 8) (h3 : T.flash.length = 8) (sm : Small T) (hd' : ns.map (fun g => (g.r0, g.r1)) = T.groups) (h : Owned.Own B w (own T ns G D R S)) : IsTab w (hd T G D R S) T := by
  have hm : (1000 : Nat) ≤ maxLen := by decide
  have hnl : ns.length = T.groups.length := by rw [← hd', List.length_map]
  refine ⟨h1, h2, h3, ⟨ns.map NG.gr, ?_, ?_, ?_⟩, ?_, ?_, ?_⟩
  · rw [← hd', List.map_map]; rfl
  · have := row_of_block (n := 2) (enc := Gr.cells) (fun _ => rfl) (ns.map NG.gr) (h.get own_g) (by rw [List.length_map, hnl]; exact Nat.le_trans sm.groups hm)
    rwa [List.length_map, hnl] at this
  · refine ng_ok h (fun x hx => by simp only [own, List.mem_cons]; exact .inr (.inr (.inr (.inr hx)))) (fun g hg => ?_)
    have := sm.rows (g.r0, g.r1) (by rw [← hd']; exact List.mem_map.2 ⟨g, hg, rfl⟩)
    exact ⟨Nat.le_trans this.1 hm, Nat.le_trans this.2 hm⟩
  · exact row_of_block (n := 7) (enc := Det.cells) (fun _ => rfl) _ (h.get own_d) (Nat.le_trans sm.dets hm)
  · exact row_of_block (n := 11) (enc := Rl.cells) (fun _ => rfl) _ (h.get own_r) (Nat.le_trans sm.rails hm)
  · exact row_of_block (n := 2) (enc := Bs.cells) (fun _ => rfl) _ (h.get own_s) (Nat.le_trans sm.buses hm)

/-! ### a table's cells, with a list moved -/
structure Eights (T : Tab) : Prop where
  p : T.phases.length = 8
  c : T.conflict.length = 8
  f : T.flash.length = 8
set_option maxRecDepth 10000 in
theorem Eights.tab {T : Tab} (k : Eights T) (h : Hd) (w : World) : CellsOk T h (T.cells h).toArray := by
  have h0 : IsTab w ⟨⟨none, 0⟩, ⟨none, 0⟩, ⟨none, 0⟩, ⟨none, 0⟩⟩ { T with groups := [], dets := [], rails := [], buses := [] } :=
    ⟨k.p, k.c, k.f, ⟨[], rfl, RowOf.nil w, fun g hg => by simp at hg⟩, RowOf.nil w, RowOf.nil w, RowOf.nil w⟩
  have := cells_ok h0
  obtain ⟨p0, p1, p2, p3, p4, p5, p6, p7, hp⟩ := eight k.p
  obtain ⟨c0, c1, c2, c3, c4, c5, c6, c7, hc⟩ := eight k.c
  obtain ⟨f0, f1, f2, f3, f4, f5, f6, f7, hf⟩ := eight k.f
  clear k
  obtain ⟨phases, groups, conflict, dets, rails, buses, extend, budget, start, revert, least, flash, window, share⟩ := T
  simp only at hp hc hf
  subst hp hc hf
  clear this h0
  constructor
  all_goals try rfl
  case one => simp [Tab.cells, Ph.cells, Value.oneCell']
  intro i p hp
  match i, hp with
  | 0, hp | 1, hp | 2, hp | 3, hp | 4, hp | 5, hp | 6, hp | 7, hp =>
    obtain rfl := Option.some.inj hp
    rfl
  | i + 8, hp => cases hp
theorem set_g {T : Tab} (k : Eights T) (h : Hd) (s : Sl) : (T.cells h).set 104 (s.val T.groups.length) = T.cells { h with g := s } := by
  obtain ⟨p0, p1, p2, p3, p4, p5, p6, p7, hp⟩ := eight k.p
  obtain ⟨phases, groups, conflict, dets, rails, buses, extend, budget, start, revert, least, flash, window, share⟩ := T
  simp only at hp
  subst hp
  rfl
theorem set_d {T : Tab} (k : Eights T) (h : Hd) (s : Sl) : (T.cells h).set 113 (s.val T.dets.length) = T.cells { h with d := s } := by
  obtain ⟨p0, p1, p2, p3, p4, p5, p6, p7, hp⟩ := eight k.p
  obtain ⟨c0, c1, c2, c3, c4, c5, c6, c7, hc⟩ := eight k.c
  obtain ⟨phases, groups, conflict, dets, rails, buses, extend, budget, start, revert, least, flash, window, share⟩ := T
  simp only at hp hc
  subst hp hc
  rfl
theorem set_r {T : Tab} (k : Eights T) (h : Hd) (s : Sl) : (T.cells h).set 114 (s.val T.rails.length) = T.cells { h with r := s } := by
  obtain ⟨p0, p1, p2, p3, p4, p5, p6, p7, hp⟩ := eight k.p
  obtain ⟨c0, c1, c2, c3, c4, c5, c6, c7, hc⟩ := eight k.c
  obtain ⟨phases, groups, conflict, dets, rails, buses, extend, budget, start, revert, least, flash, window, share⟩ := T
  simp only at hp hc
  subst hp hc
  rfl
theorem set_b {T : Tab} (k : Eights T) (h : Hd) (s : Sl) : (T.cells h).set 115 (s.val T.buses.length) = T.cells { h with b := s } := by
  obtain ⟨p0, p1, p2, p3, p4, p5, p6, p7, hp⟩ := eight k.p
  obtain ⟨c0, c1, c2, c3, c4, c5, c6, c7, hc⟩ := eight k.c
  obtain ⟨phases, groups, conflict, dets, rails, buses, extend, budget, start, revert, least, flash, window, share⟩ := T
  simp only at hp hc
  subst hp hc
  rfl
/-- The zero table. -/
def zPh : Ph := ⟨false, 0, 0, 0, 0, 0, 0, 0, 0, 0, 0, false, false⟩
def zTab : Tab := ⟨List.replicate 8 zPh, [], List.replicate 8 0, [], [], [], 0, 0, 0, 0, 0, List.replicate 8 0, 0, 0⟩
def zHd : Hd := ⟨⟨none, 0⟩, ⟨none, 0⟩, ⟨none, 0⟩, ⟨none, 0⟩⟩
theorem info31 : (Try.prog.info? 45).map (fun i => (i.zero, i.size)) = some (some (.agg (zTab.cells zHd).toArray), 131) := by kernel_rfl
theorem z_is (w : World) : IsTab w zHd zTab := ⟨rfl, rfl, rfl, ⟨[], rfl, RowOf.nil w, fun g hg => by simp at hg⟩, RowOf.nil w, RowOf.nil w, RowOf.nil w⟩
end Go.Proofs.Ytbpfknkbiaplpaa.Clone
