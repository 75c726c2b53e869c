/- 11 texts in one file, in build order. -/
import Derived.Test.YtambpohphbdhcaaRows
import Derived.Test.YtambpohphbdhcaaPart07
import Derived.Test.YtambpohphbdhcaaPart06
import Derived.Test.YtambpohphbdhcaaPart08
import Derived.Test.YtambpohphbdhcaaPart02
import Derived.Laws.AppendOwnNone
import Derived.Deep.Cut
import Derived.LoopTactic
import Derived.Test.YtambpohphbdhcaaPart04
import Derived.Deep.CutRange
set_option linter.unusedVariables false
set_option linter.unusedSimpArgs false
set_option linter.unusedSectionVars false
set_option maxHeartbeats 8000000
set_option maxRecDepth 100000
namespace Go.Proofs.Ytambpohphbdhcaa
namespace GenT
open Go Tab GenG PlaceM OnS Clone
open RefS (num num_range)
theorem genTab_groups (L : List Int) : (genTab L).groups = genGs L := by
  unfold genTab; split <;> exact tabF_groups L
theorem genTab_few (L : List Int) : Few (genTab L) := ⟨by rw [genTab_groups]; exact (tab1_few L).groups, by rw [genTab_groups]; exact (tab1_few L).rows⟩
end GenT
namespace BendU
open Go Go.RowKit
open Tab Gath GenG GenT Clone
/-- A boxed table, all of whose lists are the call's own (laid since B). -/
structure Ux (w0 : World) (tb : Nat) (hd : Hd) (T : Tab) (W : World) : Prop where
  bel : Below w0.heap.size w0 W
  tbB : w0.heap.size ≤ tb
  blk : W.heap[tb]? = some (.cells (T.cells hd).toArray 32 (0, 0))
  ph : T.phases.length = 8
  cf : T.conflict.length = 8
  fl : T.flash.length = 8
  groups : GrT W hd.g T.groups
  dets : Owns Det.cells 7 w0.heap.size W 39 (hd.d.val T.dets.length) T.dets
  rails : Owns Rl.cells 11 w0.heap.size W 41 (hd.r.val T.rails.length) T.rails
  buses : Owns Bs.cells 2 w0.heap.size W 43 (hd.b.val T.buses.length) T.buses
theorem Ux.tab {w0 : World} {tb : Nat} {W : World} {hd : Hd} {T : Tab} (h : Ux w0 tb hd T W) : IsTab W hd T :=
  ⟨h.ph, h.cf, h.fl, h.groups.lie, own_is (fun _ => rfl) h.dets, own_is (fun _ => rfl) h.rails, own_is (fun _ => rfl) h.buses⟩
theorem Ux.size {w0 : World} {tb : Nat} {W : World} {hd : Hd} {T : Tab} (h : Ux w0 tb hd T W) : tb < W.heap.size := (Array.getElem?_eq_some_iff.1 h.blk).1
theorem Ux.step {w0 : World} {tb : Nat} {W W' : World} {hd : Hd} {T : Tab} (h : Ux w0 tb hd T W) (hb : Below W.heap.size W W') : Ux w0 tb hd T W' :=
  ⟨h.bel.trans (hb.mono h.bel.size), h.tbB, (hb.block _ h.size).trans h.blk, h.ph, h.cf, h.fl, h.groups.grown (grown_below hb none) (fun m e => by cases e), h.dets.below hb, h.rails.below hb, h.buses.below hb⟩
/-- A block that is neither of the two boxes nor another type's is written. -/
theorem Ux.cell {w0 : World} {tb : Nat} {W : World} {hd : Hd} {T : Tab} (h : Ux w0 tb hd T W) (i : Nat) : W.cell? ⟨tb, i, none⟩ = (T.cells hd)[i]? := by
  rw [cell_of_row _ _ _ _ _ _ h.blk]; simp
theorem Ux.frozen {w0 : World} {tb : Nat} {W : World} {hd : Hd} {T : Tab} (h : Ux w0 tb hd T W) (i : Nat) : W.frozen? ⟨tb, i, none⟩ = false := frozen_of_row _ _ _ _ _ h.blk
/-- The table's box is written; its lists stay. -/
theorem Ux.write {w0 : World} {tb : Nat} {W W' : World} {hd : Hd} {T U : Tab} (h : Ux w0 tb hd T W) (hg : W.grownBy W' (some (tb))) (hb : W'.heap[tb]? = some (.cells (U.cells hd).toArray 32 (0, 0)))
    (h1 : U.phases.length = 8) (h2 : U.conflict.length = 8) (h3 : U.flash.length = 8) (e1 : U.groups = T.groups) (e2 : U.dets = T.dets) (e3 : U.rails = T.rails) (e4 : U.buses = T.buses) : Ux w0 tb hd U W' := by
  refine ⟨h.bel.grown hg h.bel.size (fun k hk => by cases hk; exact h.tbB), h.tbB, hb, h1, h2, h3, ?_, ?_, ?_, ?_⟩
  · rw [e1]
    exact h.groups.grown hg (fun m e => by cases e; exact ⟨_, _, h.blk, by decide, by decide⟩)
  · rw [e2]; exact own_kept h.dets hg (fun m hm e => by cases e; exact own_ne h.dets h.blk (by decide) hm)
  · rw [e3]; exact own_kept h.rails hg (fun m hm e => by cases e; exact own_ne h.rails h.blk (by decide) hm)
  · rw [e4]; exact own_kept h.buses hg (fun m hm e => by cases e; exact own_ne h.buses h.blk (by decide) hm)
/-- One number of the table. -/
theorem Ux.set {w0 : World} {tb : Nat} {W : World} {hd : Hd} {T U : Tab} (h : Ux w0 tb hd T W) (i : Nat) (v : Value) (hc : (T.cells hd).set i v = U.cells hd)
    (h1 : U.phases.length = 8) (h2 : U.conflict.length = 8) (h3 : U.flash.length = 8) (e1 : U.groups = T.groups) (e2 : U.dets = T.dets) (e3 : U.rails = T.rails) (e4 : U.buses = T.buses) : Ux w0 tb hd U (W.setCell ⟨tb, i, none⟩ v) :=
  h.write (grown_set _ _ _ _) (by rw [heap_setCell_same _ _ _ _ _ _ h.blk, ← hc]; simp) h1 h2 h3 e1 e2 e3 e4
theorem Ux.put_dets {w0 : World} {tb : Nat} {W W' : World} {hd : Hd} {T : Tab} {v' : Value} (x : Det) (h : Ux w0 tb hd T W) (hg : W.grownBy W' (hd.d.val T.dets.length).ownBlock)
    (ho : W'.ownsRow w0.heap.size 39 7 v' (T.dets.length + 1) (T.dets.flatMap Det.cells ++ x.cells)) :
    (W'.heap[tb]? = some (.cells (T.cells hd).toArray 32 (0, 0))) ∧ ∃ a' c', v' = .slice a' (T.dets.length + 1) c' ∧ Ux w0 tb ⟨hd.g, ⟨a', c'⟩, hd.r, hd.b⟩ { T with dets := T.dets ++ [x] } (W'.setCell ⟨tb, 113, none⟩ v') := by
  have hne : ∀ {b : Nat} {cs : Array Value}, W.heap[b]? = some (.cells cs 32 (0, 0)) → some b ≠ (hd.d.val T.dets.length).ownBlock := fun hb e => own_ne h.dets hb (by decide) e.symm
  have hbx := (hg.block _ h.size (hne h.blk)).trans h.blk
  have hO : Owns Det.cells 7 w0.heap.size W' 39 v' (T.dets ++ [x]) := Owns.snoc ho
  obtain ⟨⟨a', c'⟩, hs, hr⟩ := Owns.row hO (fun _ => rfl)
  refine ⟨hbx, a', c', by rw [hs, List.length_append]; rfl, ?_⟩
  refine ⟨?_, h.tbB, ?_, h.ph, h.cf, h.fl, ?_, by rw [show Sl.val ⟨a', c'⟩ (T.dets ++ [x]).length = v' from by rw [hs]]; exact own_kept hO (grown_set _ _ _ _) (fun m hm e => by cases e; exact own_ne hO hbx (by decide) hm), own_kept (own_kept h.rails hg (fun m hm e => by obtain ⟨ds, hd2⟩ := own_type h.dets _ e; exact own_ne h.rails hd2 (by decide) hm)) (grown_set _ _ _ _) (fun m hm e => by cases e; exact own_ne (own_kept h.rails hg (fun m hm e => by obtain ⟨ds, hd2⟩ := own_type h.dets _ e; exact own_ne h.rails hd2 (by decide) hm)) hbx (by decide) hm), own_kept (own_kept h.buses hg (fun m hm e => by obtain ⟨ds, hd2⟩ := own_type h.dets _ e; exact own_ne h.buses hd2 (by decide) hm)) (grown_set _ _ _ _) (fun m hm e => by cases e; exact own_ne (own_kept h.buses hg (fun m hm e => by obtain ⟨ds, hd2⟩ := own_type h.dets _ e; exact own_ne h.buses hd2 (by decide) hm)) hbx (by decide) hm)⟩
  · exact (h.bel.grown hg h.bel.size (fun k hk => h.dets.blk k hk)).setCell (p := ⟨tb, 113, none⟩) h.tbB v'
  · rw [heap_setCell_same _ _ _ _ _ _ hbx, ← cells_dets hd h.ph h.cf ⟨a', c'⟩ (T.dets ++ [x]), ← hs]; simp
  · exact (h.groups.grown hg (fun m e => by obtain ⟨ds, hd2⟩ := own_type h.dets _ e; exact ⟨ds, _, hd2, by decide, by decide⟩)).grown (grown_set _ _ _ _) (fun m e => by cases e; exact ⟨_, _, hbx, by decide, by decide⟩)
theorem Ux.put_rails {w0 : World} {tb : Nat} {W W' : World} {hd : Hd} {T : Tab} {v' : Value} (x : Rl) (h : Ux w0 tb hd T W) (hg : W.grownBy W' (hd.r.val T.rails.length).ownBlock)
    (ho : W'.ownsRow w0.heap.size 41 11 v' (T.rails.length + 1) (T.rails.flatMap Rl.cells ++ x.cells)) :
    (W'.heap[tb]? = some (.cells (T.cells hd).toArray 32 (0, 0))) ∧ ∃ a' c', v' = .slice a' (T.rails.length + 1) c' ∧ Ux w0 tb ⟨hd.g, hd.d, ⟨a', c'⟩, hd.b⟩ { T with rails := T.rails ++ [x] } (W'.setCell ⟨tb, 114, none⟩ v') := by
  have hne : ∀ {b : Nat} {cs : Array Value}, W.heap[b]? = some (.cells cs 32 (0, 0)) → some b ≠ (hd.r.val T.rails.length).ownBlock := fun hb e => own_ne h.rails hb (by decide) e.symm
  have hbx := (hg.block _ h.size (hne h.blk)).trans h.blk
  have hO : Owns Rl.cells 11 w0.heap.size W' 41 v' (T.rails ++ [x]) := Owns.snoc ho
  obtain ⟨⟨a', c'⟩, hs, hr⟩ := Owns.row hO (fun _ => rfl)
  refine ⟨hbx, a', c', by rw [hs, List.length_append]; rfl, ?_⟩
  refine ⟨?_, h.tbB, ?_, h.ph, h.cf, h.fl, ?_, own_kept (own_kept h.dets hg (fun m hm e => by obtain ⟨ds, hd2⟩ := own_type h.rails _ e; exact own_ne h.dets hd2 (by decide) hm)) (grown_set _ _ _ _) (fun m hm e => by cases e; exact own_ne (own_kept h.dets hg (fun m hm e => by obtain ⟨ds, hd2⟩ := own_type h.rails _ e; exact own_ne h.dets hd2 (by decide) hm)) hbx (by decide) hm), by rw [show Sl.val ⟨a', c'⟩ (T.rails ++ [x]).length = v' from by rw [hs]]; exact own_kept hO (grown_set _ _ _ _) (fun m hm e => by cases e; exact own_ne hO hbx (by decide) hm), own_kept (own_kept h.buses hg (fun m hm e => by obtain ⟨ds, hd2⟩ := own_type h.rails _ e; exact own_ne h.buses hd2 (by decide) hm)) (grown_set _ _ _ _) (fun m hm e => by cases e; exact own_ne (own_kept h.buses hg (fun m hm e => by obtain ⟨ds, hd2⟩ := own_type h.rails _ e; exact own_ne h.buses hd2 (by decide) hm)) hbx (by decide) hm)⟩
  · exact (h.bel.grown hg h.bel.size (fun k hk => h.rails.blk k hk)).setCell (p := ⟨tb, 114, none⟩) h.tbB v'
  · rw [heap_setCell_same _ _ _ _ _ _ hbx, ← cells_rails hd h.ph h.cf ⟨a', c'⟩ (T.rails ++ [x]), ← hs]; simp
  · exact (h.groups.grown hg (fun m e => by obtain ⟨ds, hd2⟩ := own_type h.rails _ e; exact ⟨ds, _, hd2, by decide, by decide⟩)).grown (grown_set _ _ _ _) (fun m e => by cases e; exact ⟨_, _, hbx, by decide, by decide⟩)
theorem Ux.put_buses {w0 : World} {tb : Nat} {W W' : World} {hd : Hd} {T : Tab} {v' : Value} (x : Bs) (h : Ux w0 tb hd T W) (hg : W.grownBy W' (hd.b.val T.buses.length).ownBlock)
    (ho : W'.ownsRow w0.heap.size 43 2 v' (T.buses.length + 1) (T.buses.flatMap Bs.cells ++ x.cells)) :
    (W'.heap[tb]? = some (.cells (T.cells hd).toArray 32 (0, 0))) ∧ ∃ a' c', v' = .slice a' (T.buses.length + 1) c' ∧ Ux w0 tb ⟨hd.g, hd.d, hd.r, ⟨a', c'⟩⟩ { T with buses := T.buses ++ [x] } (W'.setCell ⟨tb, 115, none⟩ v') := by
  have hne : ∀ {b : Nat} {cs : Array Value}, W.heap[b]? = some (.cells cs 32 (0, 0)) → some b ≠ (hd.b.val T.buses.length).ownBlock := fun hb e => own_ne h.buses hb (by decide) e.symm
  have hbx := (hg.block _ h.size (hne h.blk)).trans h.blk
  have hO : Owns Bs.cells 2 w0.heap.size W' 43 v' (T.buses ++ [x]) := Owns.snoc ho
  obtain ⟨⟨a', c'⟩, hs, hr⟩ := Owns.row hO (fun _ => rfl)
  refine ⟨hbx, a', c', by rw [hs, List.length_append]; rfl, ?_⟩
  refine ⟨?_, h.tbB, ?_, h.ph, h.cf, h.fl, ?_, own_kept (own_kept h.dets hg (fun m hm e => by obtain ⟨ds, hd2⟩ := own_type h.buses _ e; exact own_ne h.dets hd2 (by decide) hm)) (grown_set _ _ _ _) (fun m hm e => by cases e; exact own_ne (own_kept h.dets hg (fun m hm e => by obtain ⟨ds, hd2⟩ := own_type h.buses _ e; exact own_ne h.dets hd2 (by decide) hm)) hbx (by decide) hm), own_kept (own_kept h.rails hg (fun m hm e => by obtain ⟨ds, hd2⟩ := own_type h.buses _ e; exact own_ne h.rails hd2 (by decide) hm)) (grown_set _ _ _ _) (fun m hm e => by cases e; exact own_ne (own_kept h.rails hg (fun m hm e => by obtain ⟨ds, hd2⟩ := own_type h.buses _ e; exact own_ne h.rails hd2 (by decide) hm)) hbx (by decide) hm), by rw [show Sl.val ⟨a', c'⟩ (T.buses ++ [x]).length = v' from by rw [hs]]; exact own_kept hO (grown_set _ _ _ _) (fun m hm e => by cases e; exact own_ne hO hbx (by decide) hm)⟩
  · exact (h.bel.grown hg h.bel.size (fun k hk => h.buses.blk k hk)).setCell (p := ⟨tb, 115, none⟩) h.tbB v'
  · rw [heap_setCell_same _ _ _ _ _ _ hbx, ← cells_buses hd h.ph h.cf ⟨a', c'⟩ (T.buses ++ [x]), ← hs]; simp
  · exact (h.groups.grown hg (fun m e => by obtain ⟨ds, hd2⟩ := own_type h.buses _ e; exact ⟨ds, _, hd2, by decide, by decide⟩)).grown (grown_set _ _ _ _) (fun m e => by cases e; exact ⟨_, _, hbx, by decide, by decide⟩)
end BendU
namespace BendU
open Go Go.RowKit
open Tab Gath GenG GenT Clone Owned
theorem own_block {α : Type} {enc : α → List Value} {n B : Nat} {w : World} {t : TypeId} {g : Nat} {l : List α} (henc : ∀ x, (enc x).length = n) (hB : B ≤ g) (hg : w.heap[g]? = some (.cells (l.flatMap enc).toArray t (0, 0))) (hl : l.length ≤ maxLen) : Owns enc n B w t (.slice (some ⟨g, 0, none⟩) l.length l.length) l := by
  have hf := Gath.flat_len henc l
  refine ⟨hf, .inr ⟨g, l.length, (l.flatMap enc).toArray, rfl, hB, hg, Nat.le_refl _, hl, by rw [List.size_toArray, hf], ?_⟩⟩
  rw [List.take_of_length_le (by rw [hf]; exact Nat.le_refl _)]
theorem of_clone {w0 W : World} {T : Tab} {ns : List NG} {G D R S tb : Nat} (k8 : T.phases.length = 8) (c8 : T.conflict.length = 8) (f8 : T.flash.length = 8) (sm : Small T) (hnd : ns.map (fun g => (g.r0, g.r1)) = T.groups)
    (ho : Owned.Own w0.heap.size W (own T ns G D R S)) (hbel : Below w0.heap.size w0 W) (htb : w0.heap.size ≤ tb) (hblk : W.heap[tb]? = some (.cells (T.cells (hd T G D R S)).toArray 32 (0, 0))) : Ux w0 tb (hd T G D R S) T W := by
  have hm : ∀ n, n ≤ 1000 → n ≤ maxLen := fun n h => by unfold maxLen; omega
  have hD : (⟨D, T.dets.flatMap Det.cells, 39⟩ : Blk) ∈ own T ns G D R S := by simp [own]
  have hR : (⟨R, T.rails.flatMap Rl.cells, 41⟩ : Blk) ∈ own T ns G D R S := by simp [own]
  have hS : (⟨S, T.buses.flatMap Bs.cells, 43⟩ : Blk) ∈ own T ns G D R S := by simp [own]
  have hG : (⟨G, (ns.map NG.gr).flatMap Gr.cells, 36⟩ : Blk) ∈ own T ns G D R S := by simp [own]
  have hln : (ns.map NG.gr).length = T.groups.length := by rw [← hnd, List.length_map, List.length_map]
  refine ⟨hbel, htb, hblk, k8, c8, f8, ?_, own_block (fun _ => rfl) (ho.base hD) (ho.get hD) (hm _ sm.dets), own_block (fun _ => rfl) (ho.base hR) (ho.get hR) (hm _ sm.rails), own_block (fun _ => rfl) (ho.base hS) (ho.get hS) (hm _ sm.buses)⟩
  refine ⟨ns.map NG.gr, by rw [List.map_map, ← hnd]; rfl, ?_, ?_, ?_⟩
  · have := Copy.row_of_block (n := 2) (enc := Gr.cells) (fun _ => rfl) (ns.map NG.gr) (ho.get hG) (by rw [hln]; exact hm _ sm.groups)
    rw [hln] at this
    exact this
  · intro x hx
    obtain rfl := Option.some.inj hx
    exact ⟨_, ho.get hG⟩
  · intro g hg
    obtain ⟨y, hy, rfl⟩ := List.mem_map.1 hg
    have hyr := sm.rows (y.r0, y.r1) (by rw [← hnd]; exact List.mem_map.2 ⟨y, hy, rfl⟩)
    have h0 : (⟨y.b0, y.r0.flatMap (fun n => [I n]), 3⟩ : Blk) ∈ own T ns G D R S := by
      simp only [own, List.mem_cons]; exact .inr (.inr (.inr (.inr (List.mem_flatMap.2 ⟨y, hy, by simp [NG.blks]⟩))))
    have h1 : (⟨y.b1, y.r1.flatMap (fun n => [I n]), 3⟩ : Blk) ∈ own T ns G D R S := by
      simp only [own, List.mem_cons]; exact .inr (.inr (.inr (.inr (List.mem_flatMap.2 ⟨y, hy, by simp [NG.blks]⟩))))
    exact ⟨⟨Copy.row_of_block (n := 1) (enc := fun n => [I n]) (fun _ => rfl) y.r0 (ho.get h0) (hm _ hyr.1), fun x hx => by obtain rfl := Option.some.inj hx; exact ⟨_, ho.get h0⟩⟩,
      ⟨Copy.row_of_block (n := 1) (enc := fun n => [I n]) (fun _ => rfl) y.r1 (ho.get h1) (hm _ hyr.2), fun x hx => by obtain rfl := Option.some.inj hx; exact ⟨_, ho.get h1⟩⟩⟩
end BendU
namespace Kx
open Go Go.RowKit
open Tab Gath GenG GenT Clone
structure Kx (w0 : World) (tb : Nat) (hd : Hd) (T : Tab) (W : World) : Prop where
  bel : Below w0.heap.size w0 W
  tbB : w0.heap.size ≤ tb
  blk : W.heap[tb]? = some (.cells (T.cells hd).toArray 32 (0, 0))
  tab : IsTab w0 hd T
theorem Kx.size {w0 : World} {tb : Nat} {hd : Hd} {T : Tab} {W : World} (h : Kx w0 tb hd T W) : tb < W.heap.size := (Array.getElem?_eq_some_iff.1 h.blk).1
theorem Kx.step {w0 : World} {tb : Nat} {hd : Hd} {T : Tab} {W W' : World} (h : Kx w0 tb hd T W) (hb : Below W.heap.size W W') : Kx w0 tb hd T W' :=
  ⟨h.bel.trans (hb.mono h.bel.size), h.tbB, (hb.block _ h.size).trans h.blk, h.tab⟩
theorem Kx.cell {w0 : World} {tb : Nat} {hd : Hd} {T : Tab} {W : World} (h : Kx w0 tb hd T W) (i : Nat) : W.cell? ⟨tb, i, none⟩ = (T.cells hd)[i]? := by
  rw [cell_of_row _ _ _ _ _ _ h.blk]; simp
theorem Kx.frozen {w0 : World} {tb : Nat} {hd : Hd} {T : Tab} {W : World} (h : Kx w0 tb hd T W) (i : Nat) : W.frozen? ⟨tb, i, none⟩ = false := frozen_of_row _ _ _ _ _ h.blk
theorem Kx.write {w0 : World} {tb : Nat} {hd : Hd} {T U : Tab} {W W' : World} (h : Kx w0 tb hd T W) (hg : W.grownBy W' (some tb)) (hb : W'.heap[tb]? = some (.cells (U.cells hd).toArray 32 (0, 0)))
    (h1 : U.phases.length = 8) (h2 : U.conflict.length = 8) (h3 : U.flash.length = 8) (e1 : U.groups = T.groups) (e2 : U.dets = T.dets) (e3 : U.rails = T.rails) (e4 : U.buses = T.buses) : Kx w0 tb hd U W' :=
  ⟨h.bel.grown hg h.bel.size (fun k hk => by cases hk; exact h.tbB), h.tbB, hb, ⟨h1, h2, h3, by rw [e1]; exact h.tab.groups, by rw [e2]; exact h.tab.dets, by rw [e3]; exact h.tab.rails, by rw [e4]; exact h.tab.buses⟩⟩
theorem Kx.set {w0 : World} {tb : Nat} {hd : Hd} {T U : Tab} {W : World} (h : Kx w0 tb hd T W) (i : Nat) (v : Value) (hc : (T.cells hd).set i v = U.cells hd)
    (h1 : U.phases.length = 8) (h2 : U.conflict.length = 8) (h3 : U.flash.length = 8) (e1 : U.groups = T.groups) (e2 : U.dets = T.dets) (e3 : U.rails = T.rails) (e4 : U.buses = T.buses) : Kx w0 tb hd U (W.setCell ⟨tb, i, none⟩ v) :=
  h.write (grown_set _ _ _ _) (by rw [heap_setCell_same _ _ _ _ _ _ h.blk, ← hc]; simp) h1 h2 h3 e1 e2 e3 e4
theorem Kx.store_ph {w0 : World} {tb : Nat} {hd : Hd} {T : Tab} {W : World} (h : Kx w0 tb hd T W) (p : Nat) (hp : p < 8) (x : Ph) :
    ∃ W', Sem.run Try.prog (storeCells ⟨tb, p * 13, none⟩ x.cells) W = .ok () W' ∧ Kx w0 tb hd { T with phases := T.phases.set p x } W' := by
  have hl := cells_cut hd h.tab.ph h.tab.cf h.tab.fl
  have hr := run_storeCells_at Try.prog tb (p * 13) 32 x.cells 0 (T.cells hd).toArray W h.blk (by simp [hl, Ph.cells]; omega) (fun v hv => (Array.all_eq_true_iff_forall_mem.1 (Ph.one x)) v (by simpa using hv))
  simp only [Nat.add_zero] at hr
  refine ⟨_, hr, h.write (setRow_grown _ _ _ h.size) ?_ (by simp [h.tab.ph]) h.tab.cf h.tab.fl rfl rfl rfl rfl⟩
  rw [setRow_heap _ _ _ _ _ _ h.blk, ← cells_phase hd h.tab.ph p hp x, Nat.mul_comm 13 p]
  rfl
end Kx
namespace Ky
open Go Go.RowKit
open Tab Gath GenG GenT Clone Kx
theorem flat_at {α : Type} {f : α → List Value} {n : Nat} (hf : ∀ x, (f x).length = n) {j : Nat} (hj : j < n) : ∀ {l : List α} {k : Nat} {u : α}, l[k]? = some u → (l.flatMap f)[k * n + j]? = (f u)[j]?
  | [], k, u, h => by simp at h
  | y :: l, 0, u, h => by
    obtain rfl : y = u := by simpa using h
    rw [List.flatMap_cons, Nat.zero_mul, Nat.zero_add, List.getElem?_append_left (by rw [hf]; exact hj)]
  | y :: l, k + 1, u, h => by
    rw [List.flatMap_cons, List.getElem?_append_right (by rw [hf, Nat.add_mul]; omega), hf, show (k + 1) * n + j - n = k * n + j by rw [Nat.add_mul]; omega, flat_at hf hj (l := l) (by simpa using h)]
end Ky
namespace CpR
open Go.ChangeShapes Go.WideShapes Go.ChangeAt Go.RowKit
open Tab Gath GenG GenT
section
variable {α : Type} {enc : α → List Value} {size bytes : Nat}
theorem flat_len (henc : ∀ x, (enc x).length = size) : ∀ l : List α, (l.flatMap enc).length = l.length * size
  | [] => by simp
  | x :: l => by rw [List.flatMap_cons, List.length_append, henc, flat_len henc l, List.length_cons, Nat.add_mul]; omega
theorem flat_cell (henc : ∀ x, (enc x).length = size) (h0 : 0 < size) {W : World} {y : Addr} {l : List α} (h : ∀ i v, l[i]? = some v → Lies W (y.add (i * size)) (enc v)) : ∀ j u, (l.flatMap enc)[j]? = some u → W.cell? (y.add j) = some u := by
  intro j u hj
  have hlt := (List.getElem?_eq_some_iff.1 hj).1
  rw [flat_len henc] at hlt
  have hk : j / size < l.length := (Nat.div_lt_iff_lt_mul h0).2 hlt
  have hv := List.getElem?_eq_getElem hk
  have hr : j % size < size := Nat.mod_lt _ h0
  have e : j = j / size * size + j % size := by rw [Nat.mul_comm]; exact (Nat.div_add_mod j size).symm
  have h1 := Ky.flat_at henc hr hv
  rw [← e, hj] at h1
  have h2 := h _ _ hv (j % size) u h1.symm
  rw [add_two, ← e] at h2
  exact h2
/-- The builtin append of a whole row to nil. -/
theorem wp_copyR {e t : TypeId} {z : Value} (hinfo : (Try.prog.info? e).map (fun i => (i.zero, i.size, i.bytes)) = some (some z, size, bytes)) (hz : z.cells.size = size) (h0 : 0 < size) (ht : Try.prog.underlying t = some (.slice e))
    (henc : ∀ x, (enc x).length = size) (hone : ∀ x, ∀ u ∈ enc x, u.oneCell' = true)
    {o : Oper} {a : Act} {W : World} {K : Act → World → Prop} {Q : Exit → Act → World → Prop} (s x : Operand) (ho : o.op = .call { callee := .builtin .append, args := #[s, x], argTypes := #[t, t] }) (hs : a.eval s = .slice none 0 0)
    (ad : Option Addr) (cap : Nat) (l : List α) (hx : a.eval x = .slice ad l.length cap) (hr : RowOf size enc W ⟨ad, cap⟩ l) (hl : l.length ≤ maxLen) (hb : l.length * bytes ≤ 140737488355328)
    (h : ∀ (sa : Option Addr) (sc : Nat) (W' : World), Owns enc size W.heap.size W' e (.slice sa l.length sc) l → Below W.heap.size W W' → K (a.put o.dst (.slice sa l.length sc)) W') : Oper.wp Try.prog o a W K Q := by
  obtain ⟨i0, hi, hz0, hz1, hz2⟩ := info_parts hinfo
  rcases hr with ⟨ha, hc, hn⟩ | ⟨y, hy, h1, h2, h3⟩
  · obtain rfl : ad = none := ha
    obtain rfl : cap = 0 := hc
    subst hn
    have hrun := run_append_owned_none (P := Try.prog) (w := W) W.heap.size t o.type e i0 size ht hi (.slice none 0 0) 0 [] (World.ownsRow_nil _ _ _ _)
    unfold Oper.wp
    simp [execOp, ho, resolve, invoke, builtin, hs, hx, hrun, Result.andThen]
    exact h none 0 W Owns.nil (Below.refl _ _)
  · obtain rfl : ad = some y := hy
    refine wp_append_own W s x t ho W.heap.size e i0 z size bytes ht hi hz0 hz1 hz2 hz h0 (.slice none 0 0) 0 [] hs (World.ownsRow_nil _ _ _ _) y l.length cap (l.flatMap enc) hx (flat_len henc l) (flat_cell henc h0 h3) ?_ (by omega) (by rw [Nat.zero_add]; exact hb) (Nat.le_refl _) ?_
    · intro u hu
      obtain ⟨v, _, hm⟩ := List.mem_flatMap.1 hu
      exact hone v u hm
    · intro v' W' hown hgr _
      have hO : Owns enc size W.heap.size W' e v' l := by
        unfold Owns
        rw [Nat.zero_add, List.nil_append] at hown
        exact hown
      have hB : Below W.heap.size W W' := (Below.refl _ _).grown hgr (Nat.le_refl _) (fun m hm => by simp [Value.ownBlock] at hm)
      obtain ⟨⟨sa, sc⟩, hs2, hrow⟩ := Owns.row hO henc
      subst hs2
      exact h sa sc W' hO hB
end
end CpR
namespace GrP
open Go.ChangeShapes Go.WideShapes Go.ChangeAt Go.RowKit
open Tab Gath GenG GenT BendU
theorem flat_I : ∀ l : List Int, l.flatMap (fun n => [I n]) = l.map I
  | [] => rfl
  | x :: l => by rw [List.flatMap_cons, flat_I l]; rfl
end GrP
namespace ClR
open Go.ChangeShapes Go.WideShapes Go.ChangeAt Go.RowKit
open Tab Gath GenG GenT CpR
open Clone (Small)
open May (infoT)
section
variable {α : Type} {enc : α → List Value} {size bytes : Nat}
theorem wpList_copyR {e t : TypeId} {z : Value} (hinfo : (Try.prog.info? e).map (fun i => (i.zero, i.size, i.bytes)) = some (some z, size, bytes)) (hz : z.cells.size = size) (h0 : 0 < size) (ht : Try.prog.underlying t = some (.slice e))
    (henc : ∀ x, (enc x).length = size) (hone : ∀ x, ∀ u ∈ enc x, u.oneCell' = true)
    {ops : Array Oper} {rest : List Oper} {o : Oper} {a : Act} {W : World} {Q : Exit → Act → World → Prop} (hgd : o.guard = none) (s x : Operand) (ho : o.op = .call { callee := .builtin .append, args := #[s, x], argTypes := #[t, t] }) (hs : a.eval s = .slice none 0 0)
    (ad : Option Addr) (cap : Nat) (l : List α) (n : Nat) (hn : l.length = n) (hx : a.eval x = .slice ad n cap) (hr : RowOf size enc W ⟨ad, cap⟩ l) (hl : n ≤ maxLen) (hb : n * bytes ≤ 140737488355328)
    (h : ∀ (sa : Option Addr) (sc : Nat) (W' : World), Owns enc size W.heap.size W' e (.slice sa n sc) l → Below W.heap.size W W' → wpList Try.prog ops Q rest (a.put o.dst (.slice sa n sc)) W') : wpList Try.prog ops Q (o :: rest) a W := by
  subst hn
  exact wpList_plain hgd fun K hK => wp_copyR hinfo hz h0 ht henc hone s x ho hs ad cap l hx hr hl hb fun sa sc W' h1 h2 => hK _ _ (h sa sc W' h1 h2)
end
theorem infoDz3 : (Try.prog.info? 39).map (fun i => (i.zero, i.size, i.bytes)) = some (some (.agg #[I 0, F 0, F 0, F 0, F 0, I 0, I 0]), 7, 56) := by kernel_rfl
theorem infoRz3 : (Try.prog.info? 41).map (fun i => (i.zero, i.size, i.bytes)) = some (some (.agg #[I 0, I 0, I 0, I 0, I 0, I 0, I 0, I 0, I 0, I 0, I 0]), 11, 88) := by kernel_rfl
theorem infoBz3 : (Try.prog.info? 43).map (fun i => (i.zero, i.size, i.bytes)) = some (some (.agg #[I 0, I 0]), 2, 16) := by kernel_rfl
theorem one_of {c : List Value} (h : c.toArray.all (·.oneCell') = true) : ∀ u ∈ c, u.oneCell' = true := fun u hu => (Array.all_eq_true_iff_forall_mem.1 h) u (by simpa using hu)
/-- The box of the clone, while it is made: the heads hd; the argument's lists lie as they lay. -/
structure Cx (w : World) (hd : Hd) (T : Tab) (Z : Array Value) (W : World) : Prop where
  bel : Below w.heap.size w W
  blk : W.heap[w.heap.size]? = some (.cells (T.cells hd).toArray 32 (0, 0))
  res : W.heap[w.heap.size + 1]? = some (.cells Z 32 (0, 0))
theorem Cx.step {w : World} {hd : Hd} {T : Tab} {Z : Array Value} {W W' : World} (h : Cx w hd T Z W) (hb : Below W.heap.size W W') : Cx w hd T Z W' :=
  ⟨h.bel.trans (hb.mono h.bel.size), (hb.block _ (Array.getElem?_eq_some_iff.1 h.blk).1).trans h.blk, (hb.block _ (Array.getElem?_eq_some_iff.1 h.res).1).trans h.res⟩
theorem Cx.cell {w : World} {hd : Hd} {T : Tab} {Z : Array Value} {W : World} (h : Cx w hd T Z W) (i : Nat) : W.cell? ⟨w.heap.size, i, none⟩ = (T.cells hd)[i]? := by
  rw [cell_of_row _ _ _ _ _ _ h.blk]; simp
theorem Cx.frozen {w : World} {hd : Hd} {T : Tab} {Z : Array Value} {W : World} (h : Cx w hd T Z W) (i : Nat) : W.frozen? ⟨w.heap.size, i, none⟩ = false := frozen_of_row _ _ _ _ _ h.blk
theorem Cx.set {w : World} {hd hd' : Hd} {T : Tab} {Z : Array Value} {W : World} (h : Cx w hd T Z W) (i : Nat) (v : Value) (hc : (T.cells hd).set i v = T.cells hd') : Cx w hd' T Z (W.setCell ⟨w.heap.size, i, none⟩ v) := by
  have hg := grown_set W w.heap.size i v
  refine ⟨h.bel.grown hg h.bel.size (fun k hk => by cases hk; exact Nat.le_refl _), ?_, (hg.block _ (Array.getElem?_eq_some_iff.1 h.res).1 (fun e => by simp at e)).trans h.res⟩
  rw [heap_setCell_same _ _ _ _ _ _ h.blk, ← hc]; simp
theorem at_g {T : Tab} (hd : Hd) (h8 : T.phases.length = 8) (hc : T.conflict.length = 8) : (T.cells hd)[104]? = some (hd.g.val T.groups.length) := by
  obtain ⟨a0, a1, a2, a3, a4, a5, a6, a7, e⟩ := eight h8
  obtain ⟨c0, c1, c2, c3, c4, c5, c6, c7, e2⟩ := eight hc
  obtain ⟨phases, groups, conflict, dets, rails, buses, extend, budget, start, revert, least, flash, window, share⟩ := T
  simp only at e e2
  subst e e2
  rfl
theorem at_d {T : Tab} (hd : Hd) (h8 : T.phases.length = 8) (hc : T.conflict.length = 8) : (T.cells hd)[113]? = some (hd.d.val T.dets.length) := by
  obtain ⟨a0, a1, a2, a3, a4, a5, a6, a7, e⟩ := eight h8
  obtain ⟨c0, c1, c2, c3, c4, c5, c6, c7, e2⟩ := eight hc
  obtain ⟨phases, groups, conflict, dets, rails, buses, extend, budget, start, revert, least, flash, window, share⟩ := T
  simp only at e e2
  subst e e2
  rfl
theorem at_r {T : Tab} (hd : Hd) (h8 : T.phases.length = 8) (hc : T.conflict.length = 8) : (T.cells hd)[114]? = some (hd.r.val T.rails.length) := by
  obtain ⟨a0, a1, a2, a3, a4, a5, a6, a7, e⟩ := eight h8
  obtain ⟨c0, c1, c2, c3, c4, c5, c6, c7, e2⟩ := eight hc
  obtain ⟨phases, groups, conflict, dets, rails, buses, extend, budget, start, revert, least, flash, window, share⟩ := T
  simp only at e e2
  subst e e2
  rfl
theorem at_b {T : Tab} (hd : Hd) (h8 : T.phases.length = 8) (hc : T.conflict.length = 8) : (T.cells hd)[115]? = some (hd.b.val T.buses.length) := by
  obtain ⟨a0, a1, a2, a3, a4, a5, a6, a7, e⟩ := eight h8
  obtain ⟨c0, c1, c2, c3, c4, c5, c6, c7, e2⟩ := eight hc
  obtain ⟨phases, groups, conflict, dets, rails, buses, extend, budget, start, revert, least, flash, window, share⟩ := T
  simp only at e e2
  subst e e2
  rfl
/-- A list of the call's own is as it was where the box is written. -/
theorem own_box {α : Type} {enc : α → List Value} {n B b i : Nat} {W : World} {t : TypeId} {v x : Value} {l : List α} {cs : Array Value} (h : Owns enc n B W t v l) (hb : W.heap[b]? = some (.cells cs 32 (0, 0))) (ht : t ≠ 32) : Owns enc n B (W.setCell ⟨b, i, none⟩ x) t v l :=
  own_kept h (grown_set _ _ _ _) (fun m hm e => by cases e; exact own_ne h hb (fun q => ht q.symm) hm)
/-- Its rows lie at B or behind it. -/
def Lc (B : Nat) (g : Gr) : Prop := (∀ x, g.s0.a = some x → B ≤ x.block) ∧ ∀ x, g.s1.a = some x → B ≤ x.block
/-- The groups of a table, in blocks of their types, the rows at B or behind it. -/
def GrL (B : Nat) (w : World) (s : Sl) (l : List (List Int × List Int)) : Prop := ∃ gs : List Gr, gs.map Gr.data = l ∧ RowOf 2 Gr.cells w s gs ∧ KT w s 36 ∧ (∀ g ∈ gs, RowI w g.s0 g.r0 ∧ RowI w g.s1 g.r1) ∧ ∀ g ∈ gs, Lc B g
theorem GrL.grown {B : Nat} {w w' : World} {s : Sl} {l : List (List Int × List Int)} {row : Option Nat} (h : GrL B w s l) (hg : w.grownBy w' row) (hr : ∀ m, row = some m → ∃ cs t, w.heap[m]? = some (.cells cs t (0, 0)) ∧ t ≠ 36 ∧ t ≠ 3) : GrL B w' s l := by
  obtain ⟨gs, h1, h2, h3, h4, h5⟩ := h
  have hI : ∀ (s : Sl) (l : List Int), RowI w s l → RowI w' s l := fun s l hs => hs.grown hg (fun x hx e => by
    obtain ⟨cs, t, hb, _, ht⟩ := hr _ e.symm
    exact hs.ne hb ht x hx rfl)
  have hn : ∀ x, s.a = some x → some x.block ≠ row := fun x hx e => by
    obtain ⟨cs, t, hb, ht, _⟩ := hr _ e.symm
    exact h3.ne hb ht x hx rfl
  exact ⟨gs, h1, row_grown h2 hg hn, h3.grown hg hn, fun g hgm => ⟨hI _ _ (h4 g hgm).1, hI _ _ (h4 g hgm).2⟩, h5⟩
theorem GrL.to {B : Nat} {w : World} {s : Sl} {l : List (List Int × List Int)} (h : GrL B w s l) : GrT w s l := by
  obtain ⟨gs, h1, h2, h3, h4, _⟩ := h
  exact ⟨gs, h1, h2, h3, h4⟩
/-- append([]int(nil), row...), in a region that draws. -/
theorem wp_copyI2 {o : Oper} {a : Act} {W : World} {K : Act → World → Prop} {Q : Exit → Act → World → Prop} (s x : Operand) (ho : o.op = .call { callee := .builtin .append, args := #[s, x], argTypes := #[22, 22] }) (hs : a.eval s = .slice none 0 0)
    (ad : Option Addr) (cap : Nat) (R : List Int) (hx : a.eval x = .slice ad R.length cap) (hr : IntRow W ⟨ad, cap⟩ R) (hl : R.length ≤ 1000)
    (h : ∀ (sa : Option Addr) (sc : Nat) (W' : World), RowI W' ⟨sa, sc⟩ R → (∀ x, sa = some x → W.heap.size ≤ x.block) → Below W.heap.size W W' → K (a.put o.dst (.slice sa R.length sc)) W') : Oper.wp Try.prog o a W K Q := by
  obtain ⟨i0, hi, hz0, hz1, hz2⟩ := info_parts RefS.info3
  rcases hr with ⟨ha, hc, hn⟩ | ⟨y, hy, h1, h2, h3⟩
  · obtain rfl : ad = none := ha
    obtain rfl : cap = 0 := hc
    subst hn
    have hrun := run_append_owned_none (P := Try.prog) (w := W) W.heap.size 22 o.type 3 i0 1 Try.underlying22 hi (.slice none 0 0) 0 [] (World.ownsRow_nil _ _ _ _)
    unfold Oper.wp
    simp [execOp, ho, resolve, invoke, builtin, hs, hx, hrun, Result.andThen]
    exact h none 0 W ⟨RowOf.nil _, fun x hx => by cases hx⟩ (fun x hx => by cases hx) (Below.refl _ _)
  · obtain rfl : ad = some y := hy
    have hlen : (R.flatMap (fun n => [I n])).length = R.length := by
      clear h3 hl hx h h1
      induction R with
      | nil => rfl
      | cons z t ih => rw [List.flatMap_cons, List.length_append, ih, List.length_cons]; simp; omega
    refine wp_append_own W s x 22 ho W.heap.size 3 i0 (.int .i64 0) 1 8 Try.underlying22 hi hz0 hz1 hz2 rfl (by decide) (.slice none 0 0) 0 [] hs (World.ownsRow_nil _ _ _ _) y R.length cap (R.flatMap (fun n => [I n])) hx (by rw [hlen]; omega) ?_ ?_ (by unfold maxLen; omega) (by omega) (Nat.le_refl _) ?_
    · intro j u hj
      have hjl : j < R.length := by rw [← hlen]; exact (List.getElem?_eq_some_iff.1 hj).1
      have hv := List.getElem?_eq_getElem hjl
      have hc := h3 j _ hv 0 _ rfl
      rw [Nat.mul_one, add_two, Nat.add_zero] at hc
      rw [hc]
      have : (R.flatMap (fun n => [I n]))[j]? = some (I R[j]) := by
        rw [GrP.flat_I, List.getElem?_map, hv]; rfl
      rw [this] at hj
      exact hj
    · intro u hu
      obtain ⟨n, _, hm⟩ := List.mem_flatMap.1 hu
      obtain rfl := List.mem_singleton.1 hm
      rfl
    · intro v' W' hown hgr _
      have hO : Owns (fun n => [I n]) 1 W.heap.size W' 3 v' R := by
        unfold Owns
        rw [Nat.zero_add, List.nil_append] at hown
        exact hown
      have hB : Below W.heap.size W W' := (Below.refl _ _).grown hgr (Nat.le_refl _) (fun m hm => by simp [Value.ownBlock] at hm)
      obtain ⟨⟨sa, sc⟩, hs2, hrow⟩ := Owns.row hO (fun _ => rfl)
      subst hs2
      have hloc : ∀ x, sa = some x → W.heap.size ≤ x.block ∧ ∃ cs : Array Value, W'.heap[x.block]? = some (.cells cs 3 (0, 0)) := by
        intro x hx
        obtain rfl : sa = some x := hx
        rcases hO.2 with ⟨e, _⟩ | ⟨g, cp, cur, e, h4, h5, _⟩
        · simp [Sl.val] at e
        · simp [Sl.val] at e
          obtain ⟨rfl, _⟩ := e
          exact ⟨h4, cur, h5⟩
      exact h sa sc W' ⟨hrow, fun x hx => (hloc x hx).2⟩ (fun x hx => (hloc x hx).1) hB
/-- Where the loop stands: q groups are copied; v is their slice. -/
structure Lp (w : World) (hd : Hd) (T : Tab) (Z : Array Value) (gs0 : List Gr) (q : Nat) (v : Value) (W : World) : Prop where
  cx : Cx w hd T Z W
  dets : Owns Det.cells 7 w.heap.size W 39 (hd.d.val T.dets.length) T.dets
  rails : Owns Rl.cells 11 w.heap.size W 41 (hd.r.val T.rails.length) T.rails
  buses : Owns Bs.cells 2 w.heap.size W 43 (hd.b.val T.buses.length) T.buses
  own : ∃ (gs : List Gr) (la : Option Addr) (lc : Nat), v = .slice la q lc ∧ gs.map Gr.data = (gs0.take q).map Gr.data ∧ Owns Gr.cells 2 w.heap.size W 36 v gs ∧ (∀ g ∈ gs, RowI W g.s0 g.r0 ∧ RowI W g.s1 g.r1) ∧ ∀ g ∈ gs, Lc w.heap.size g
theorem Lp.step {w : World} {hd : Hd} {T : Tab} {Z : Array Value} {gs0 : List Gr} {q : Nat} {v : Value} {W W' : World} (h : Lp w hd T Z gs0 q v W) (hb : Below W.heap.size W W') : Lp w hd T Z gs0 q v W' := by
  obtain ⟨gs, la, lc, e, h1, h2, h3, h4⟩ := h.own
  exact ⟨h.cx.step hb, h.dets.below hb, h.rails.below hb, h.buses.below hb, gs, la, lc, e, h1, h2.below hb, fun g hg => ⟨(h3 g hg).1.below hb, (h3 g hg).2.below hb⟩, h4⟩
theorem Lp.put {w : World} {hd : Hd} {T : Tab} {Z : Array Value} {gs0 gs : List Gr} {q : Nat} {la : Option Addr} {lc : Nat} {v' : Value} {W W' : World} {g0 x : Gr} (h : Lp w hd T Z gs0 q (.slice la q lc) W) (hl : gs.length = q) (hd1 : gs.map Gr.data = (gs0.take q).map Gr.data)
    (hown : Owns Gr.cells 2 w.heap.size W 36 (.slice la q lc) gs) (hrows : ∀ g ∈ gs, RowI W g.s0 g.r0 ∧ RowI W g.s1 g.r1) (hq : gs0[q]? = some g0) (hx : x.data = g0.data) (hr : RowI W x.s0 x.r0 ∧ RowI W x.s1 x.r1) (hlc : ∀ g ∈ gs, Lc w.heap.size g) (hlx : Lc w.heap.size x)
    (hg : W.grownBy W' (Value.slice la q lc).ownBlock) (ho : W'.ownsRow w.heap.size 36 2 v' (q + 1) (gs.flatMap Gr.cells ++ x.cells)) : Lp w hd T Z gs0 (q + 1) v' W' := by
  have hO : Owns Gr.cells 2 w.heap.size W' 36 v' (gs ++ [x]) := Owns.snoc (by rw [hl]; exact ho)
  obtain ⟨⟨a', c'⟩, hs, hrw⟩ := Owns.row hO (fun _ => rfl)
  have hs2 : v' = .slice a' (q + 1) c' := by rw [hs, List.length_append, hl]; rfl
  have hne : ∀ {b : Nat} {cs : Array Value}, W.heap[b]? = some (.cells cs 32 (0, 0)) → some b ≠ (Value.slice la q lc).ownBlock := fun hb e => own_ne hown hb (by decide) e.symm
  have hK : ∀ s l, RowI W s l → RowI W' s l := fun s l hr => hr.grown hg (fun y hy e => by
    obtain ⟨ds, hd⟩ := own_type hown _ e.symm
    exact hr.ne hd (by decide) y hy rfl)
  have c1 := h.cx
  refine ⟨⟨c1.bel.grown hg c1.bel.size (fun k hk => hown.blk k hk), (hg.block _ (Array.getElem?_eq_some_iff.1 c1.blk).1 (hne c1.blk)).trans c1.blk, (hg.block _ (Array.getElem?_eq_some_iff.1 c1.res).1 (hne c1.res)).trans c1.res⟩, ?_, ?_, ?_, gs ++ [x], a', c', hs2, ?_, hO, ?_, fun g hg => (List.mem_append.1 hg).elim (hlc g) (fun h => (List.mem_singleton.1 h) ▸ hlx)⟩
  · exact own_kept h.dets hg (fun m hm e => by obtain ⟨ds, hd2⟩ := own_type hown _ e; exact own_ne h.dets hd2 (by decide) hm)
  · exact own_kept h.rails hg (fun m hm e => by obtain ⟨ds, hd2⟩ := own_type hown _ e; exact own_ne h.rails hd2 (by decide) hm)
  · exact own_kept h.buses hg (fun m hm e => by obtain ⟨ds, hd2⟩ := own_type hown _ e; exact own_ne h.buses hd2 (by decide) hm)
  · rw [List.map_append, hd1, PlaceM.take_succ hq, List.map_append]
    simp [hx]
  · intro y hy
    rcases List.mem_append.1 hy with hy | hy
    · exact ⟨hK _ _ (hrows y hy).1, hK _ _ (hrows y hy).2⟩
    · obtain rfl : y = x := by simpa using hy
      exact ⟨hK _ _ hr.1, hK _ _ hr.2⟩
theorem Lp.fin {w : World} {hd : Hd} {T : Tab} {Z : Array Value} {gs0 : List Gr} {v : Value} {W : World} (h : Lp w hd T Z gs0 gs0.length v W) (hgd : gs0.map Gr.data = T.groups) (hz : Z.size = 131) (ph : T.phases.length = 8) (cf : T.conflict.length = 8) (fl : T.flash.length = 8) :
    ∃ hd' W2, Lies (W.setCell ⟨w.heap.size, 104, none⟩ v) ⟨w.heap.size, 0, none⟩ (T.cells hd') ∧ Sem.run Try.prog (storeCells ⟨w.heap.size + 1, 0, none⟩ (T.cells hd')) (W.setCell ⟨w.heap.size, 104, none⟩ v) = .ok () W2 ∧ W2.heap[w.heap.size + 1]? = some (.cells (T.cells hd').toArray 32 (0, 0)) ∧ IsTab W2 hd' T ∧ Own3 w.heap.size W2 hd' T ∧ GrL w.heap.size W2 hd'.g T.groups ∧ Below w.heap.size w W2 := by
  obtain ⟨gs, la, lc, rfl, hd1, hown, hrows, hlc⟩ := h.own
  have hgl : gs.length = gs0.length := by have := congrArg List.length hd1; simpa using this
  have hgs : gs.map Gr.data = T.groups := by rw [hd1, List.take_length, hgd]
  have hTl : T.groups.length = gs0.length := by rw [← hgd, List.length_map]
  have hc : (T.cells hd).set 104 (.slice la gs0.length lc) = T.cells ⟨⟨la, lc⟩, hd.d, hd.r, hd.b⟩ := by
    have := cells_groups hd ph ⟨la, lc⟩ T.groups
    rw [hTl] at this
    exact this
  have c1 := h.cx.set 104 (.slice la gs0.length lc) hc
  have g1 := grown_set W w.heap.size 104 (.slice la gs0.length lc)
  have hO : Owns Gr.cells 2 w.heap.size W 36 (Sl.val ⟨la, lc⟩ gs.length) gs := by rw [hgl]; exact hown
  have hKT : ∀ x, la = some x → ∃ g, x = ⟨g, 0, none⟩ ∧ w.heap.size ≤ g ∧ ∃ cs, W.heap[x.block]? = some (.cells cs 36 (0, 0)) := by
    intro x hx
    subst hx
    rcases hO.2 with ⟨e, _⟩ | ⟨g, cp, cur, e, h1, h2, _⟩
    · simp [Sl.val] at e
    · simp [Sl.val] at e
      obtain ⟨rfl, _⟩ := e
      exact ⟨g, rfl, h1, cur, h2⟩
  have kg : GrL w.heap.size W ⟨la, lc⟩ T.groups := ⟨gs, hgs, own_is (fun _ => rfl) hO, fun x hx => (hKT x hx).choose_spec.2.2, hrows, hlc⟩
  have kg1 := kg.grown g1 (fun m e => by cases e; exact ⟨_, _, h.cx.blk, by decide, by decide⟩)
  have d1 := own_box (i := 104) (x := .slice la gs0.length lc) h.dets h.cx.blk (by decide)
  have r1 := own_box (i := 104) (x := .slice la gs0.length lc) h.rails h.cx.blk (by decide)
  have b1 := own_box (i := 104) (x := .slice la gs0.length lc) h.buses h.cx.blk (by decide)
  generalize W.setCell ⟨w.heap.size, 104, none⟩ (.slice la gs0.length lc) = W1 at *
  have tab1 : IsTab W1 ⟨⟨la, lc⟩, hd.d, hd.r, hd.b⟩ T := ⟨ph, cf, fl, kg1.to.lie, own_is (fun _ => rfl) d1, own_is (fun _ => rfl) r1, own_is (fun _ => rfl) b1⟩
  have hl := cells_cut ⟨⟨la, lc⟩, hd.d, hd.r, hd.b⟩ ph cf fl
  have hr := run_storeCells_at Try.prog (w.heap.size + 1) 0 32 (T.cells ⟨⟨la, lc⟩, hd.d, hd.r, hd.b⟩) 0 Z W1 c1.res (by rw [hl]; omega) (fun v hv => (Array.all_eq_true_iff_forall_mem.1 (cells_ok tab1).one) v (by simpa using hv))
  simp only [Nat.add_zero] at hr
  have e : (Z.toList.take 0 ++ T.cells ⟨⟨la, lc⟩, hd.d, hd.r, hd.b⟩ ++ Z.toList.drop (0 + (T.cells ⟨⟨la, lc⟩, hd.d, hd.r, hd.b⟩).length)).toArray = (T.cells ⟨⟨la, lc⟩, hd.d, hd.r, hd.b⟩).toArray := by
    rw [List.drop_of_length_le (by rw [hl, Array.length_toList, hz]; omega)]; simp
  rw [e] at hr
  have hg := setRow_grown W1 (w.heap.size + 1) (T.cells ⟨⟨la, lc⟩, hd.d, hd.r, hd.b⟩).toArray (Array.getElem?_eq_some_iff.1 c1.res).1
  have k1 := own_kept d1 hg (fun m hm e => by cases e; exact own_ne d1 c1.res (by decide) hm)
  have k2 := own_kept r1 hg (fun m hm e => by cases e; exact own_ne r1 c1.res (by decide) hm)
  have k3 := own_kept b1 hg (fun m hm e => by cases e; exact own_ne b1 c1.res (by decide) hm)
  have kg2 := kg1.grown hg (fun m e => by cases e; exact ⟨_, _, c1.res, by decide, by decide⟩)
  refine ⟨⟨⟨la, lc⟩, hd.d, hd.r, hd.b⟩, _, by have := Row.lies_of_block c1.blk; simpa using this, hr, setRow_heap _ _ _ _ _ _ c1.res, ⟨ph, cf, fl, kg2.to.lie, own_is (fun _ => rfl) k1, own_is (fun _ => rfl) k2, own_is (fun _ => rfl) k3⟩, ⟨kg2.to, k1, k2, k3, fun x hx => ⟨_, (hKT x hx).choose_spec.1, (hKT x hx).choose_spec.2.1⟩⟩, kg2, c1.bel.grown hg c1.bel.size (fun k hk => by cases hk; omega)⟩
theorem builtG (a b : Option Addr) (m c n d : Nat) : Try.prog.built 36 [(0, .slice a m c), (1, .slice b n d)] = some #[.slice a m c, .slice b n d] := by kernel_rfl
theorem rclone_any (T : Tab) (h : Hd) (w : World) (ht : IsTab w h T) (sm : Small T) :
    Calls Try.prog 7 #[.agg (T.cells h).toArray] w fun e w' => ∃ hd, e = .returned (.agg (T.cells hd).toArray) ∧ IsTab w' hd T ∧ Own3 w.heap.size w' hd T ∧ GrL w.heap.size w' hd.g T.groups ∧ Below w.heap.size w w' := by
  have hz := (zero_of_info GenT.infoTz).1
  obtain ⟨⟨ga, gc⟩, ⟨da, dc⟩, ⟨ra, rc⟩, ⟨ba, bc⟩⟩ := h
  have CX0 : Hid (Cx w ⟨⟨ga, gc⟩, ⟨da, dc⟩, ⟨ra, rc⟩, ⟨ba, bc⟩⟩ T (zTab.cells zHd).toArray ((w.alloc (.cells (T.cells ⟨⟨ga, gc⟩, ⟨da, dc⟩, ⟨ra, rc⟩, ⟨ba, bc⟩⟩).toArray 32)).alloc (.cells (zTab.cells zHd).toArray 32))) := Lib.hid
    ⟨((Below.refl _ _).alloc (Nat.le_refl _) _).alloc (by simp) _, heap_alloc2_old w _ _, heap_alloc2_new w _ _⟩
  have HT := Lib.hid ht
  have SM := Lib.hid sm
  generalize hZ : (zTab.cells zHd).toArray = Z at *
  have ZS : Hid (Z.size = 131) := Lib.hid (by rw [← hZ, List.size_toArray]; exact cells_cut zHd rfl rfl rfl)
  clear hZ
  go_enter Try.func7, Try.ntmps7
  go_upto_region 1 with fail
  generalize (w.alloc (.cells (T.cells ⟨⟨ga, gc⟩, ⟨da, dc⟩, ⟨ra, rc⟩, ⟨ba, bc⟩⟩).toArray 32)).alloc (.cells Z 32) = w1 at CX0 ⊢
  clear hz ht sm
  have c1 : w1.cell? ⟨w.heap.size, 113, none⟩ = some (.slice da T.dets.length dc) := by
    rw [CX0.out.cell]; exact at_d _ HT.out.ph HT.out.cf
  go_wp2_with (at_builtin; refine wpList_copyR infoDz3 rfl (by decide) Try.underlying28 (fun _ => rfl) (fun x => one_of (Det.one x)) rfl _ _ rfl rfl da dc T.dets _ rfl rfl (HT.out.dets.below CX0.out.bel) (by have := SM.out.dets; unfold maxLen; omega) (by have := SM.out.dets; omega) ?_)
  intro s0 t0 W2 hO hb
  have C2 := Lib.hid (CX0.out.step hb)
  have OD0 := Lib.hid (Owns.mono hO CX0.out.bel.size)
  have c2 : W2.cell? ⟨w.heap.size, 113, none⟩ = some (.slice da T.dets.length dc) := by
    rw [C2.out.cell]; exact at_d _ HT.out.ph HT.out.cf
  have f2 := C2.out.frozen 113
  have CX1 := Lib.hid (C2.out.set 113 (.slice s0 T.dets.length t0) (cells_dets ⟨⟨ga, gc⟩, ⟨da, dc⟩, ⟨ra, rc⟩, ⟨ba, bc⟩⟩ HT.out.ph HT.out.cf ⟨s0, t0⟩ T.dets))
  have OD := Lib.hid (own_box (i := 113) (x := .slice s0 T.dets.length t0) OD0.out C2.out.blk (by decide))
  clear OD0
  clear hO hb c1 CX0
  go_upto_region 2 with fail
  clear c2 f2
  generalize W2.setCell ⟨w.heap.size, 113, none⟩ (.slice s0 T.dets.length t0) = w2 at CX1 OD ⊢
  clear C2
  have c1 : w2.cell? ⟨w.heap.size, 114, none⟩ = some (.slice ra T.rails.length rc) := by
    rw [CX1.out.cell]; exact at_r _ HT.out.ph HT.out.cf
  go_wp2_with (at_builtin; refine wpList_copyR infoRz3 rfl (by decide) Try.underlying29 (fun _ => rfl) (fun x => one_of (Rl.one x)) rfl _ _ rfl rfl ra rc T.rails _ rfl rfl (HT.out.rails.below CX1.out.bel) (by have := SM.out.rails; unfold maxLen; omega) (by have := SM.out.rails; omega) ?_)
  intro s1 t1 W2 hO hb
  have C2 := Lib.hid (CX1.out.step hb)
  have OR0 := Lib.hid (Owns.mono hO CX1.out.bel.size)
  have OD0 := Lib.hid (OD.out.below hb)
  have c2 : W2.cell? ⟨w.heap.size, 114, none⟩ = some (.slice ra T.rails.length rc) := by
    rw [C2.out.cell]; exact at_r _ HT.out.ph HT.out.cf
  have f2 := C2.out.frozen 114
  have CX2 := Lib.hid (C2.out.set 114 (.slice s1 T.rails.length t1) (cells_rails ⟨⟨ga, gc⟩, ⟨s0, t0⟩, ⟨ra, rc⟩, ⟨ba, bc⟩⟩ HT.out.ph HT.out.cf ⟨s1, t1⟩ T.rails))
  have OD := Lib.hid (own_box (i := 114) (x := .slice s1 T.rails.length t1) OD0.out C2.out.blk (by decide))
  clear OD0
  have OR := Lib.hid (own_box (i := 114) (x := .slice s1 T.rails.length t1) OR0.out C2.out.blk (by decide))
  clear OR0
  clear hO hb c1 CX1
  go_upto_region 3 with fail
  clear c2 f2
  generalize W2.setCell ⟨w.heap.size, 114, none⟩ (.slice s1 T.rails.length t1) = w3 at CX2 OD OR ⊢
  clear C2
  have c1 : w3.cell? ⟨w.heap.size, 115, none⟩ = some (.slice ba T.buses.length bc) := by
    rw [CX2.out.cell]; exact at_b _ HT.out.ph HT.out.cf
  go_wp2_with (at_builtin; refine wpList_copyR infoBz3 rfl (by decide) Try.underlying30 (fun _ => rfl) (fun x => one_of (Bs.one x)) rfl _ _ rfl rfl ba bc T.buses _ rfl rfl (HT.out.buses.below CX2.out.bel) (by have := SM.out.buses; unfold maxLen; omega) (by have := SM.out.buses; omega) ?_)
  intro s2 t2 W2 hO hb
  have C2 := Lib.hid (CX2.out.step hb)
  have OB0 := Lib.hid (Owns.mono hO CX2.out.bel.size)
  have OD0 := Lib.hid (OD.out.below hb)
  have OR0 := Lib.hid (OR.out.below hb)
  have c2 : W2.cell? ⟨w.heap.size, 115, none⟩ = some (.slice ba T.buses.length bc) := by
    rw [C2.out.cell]; exact at_b _ HT.out.ph HT.out.cf
  have f2 := C2.out.frozen 115
  have CX3 := Lib.hid (C2.out.set 115 (.slice s2 T.buses.length t2) (cells_buses ⟨⟨ga, gc⟩, ⟨s0, t0⟩, ⟨s1, t1⟩, ⟨ba, bc⟩⟩ HT.out.ph HT.out.cf ⟨s2, t2⟩ T.buses))
  have OD := Lib.hid (own_box (i := 115) (x := .slice s2 T.buses.length t2) OD0.out C2.out.blk (by decide))
  clear OD0
  have OR := Lib.hid (own_box (i := 115) (x := .slice s2 T.buses.length t2) OR0.out C2.out.blk (by decide))
  clear OR0
  have OB := Lib.hid (own_box (i := 115) (x := .slice s2 T.buses.length t2) OB0.out C2.out.blk (by decide))
  clear OB0
  clear hO hb c1 CX2
  go_upto_region 4 with fail
  clear c2 f2
  generalize W2.setCell ⟨w.heap.size, 115, none⟩ (.slice s2 T.buses.length t2) = w4 at CX3 OD OR OB ⊢
  clear C2
  obtain ⟨gs0, hgd, hgl, hgo⟩ := HT.out.groups
  have HGD := Lib.hid hgd
  have HGL := Lib.hid hgl
  have HGO := Lib.hid hgo
  have NL : Hid (T.groups.length = gs0.length) := Lib.hid (by rw [← hgd, List.length_map])
  have SG : Hid (T.groups.length ≤ 1000) := Lib.hid SM.out.groups
  have SR : Hid (∀ g ∈ gs0, g.r0.length ≤ 1000 ∧ g.r1.length ≤ 1000) := Lib.hid (fun g hg => SM.out.rows _ (by rw [← hgd]; exact List.mem_map.2 ⟨g, hg, rfl⟩))
  have hgl0 := hgl.len
  clear hgd hgl hgo
  generalize hn : T.groups.length = n at *
  have HN := Lib.hid hn
  clear hn
  go_wp2_with fail
  obtain ⟨j0, hj, hy0, hy1, hy2⟩ := info_parts infoG3
  go_loopw [3, 4] (fun v i wr => ∃ q : Nat, q ≤ n ∧ i = .int .i64 q ∧ Lp w ⟨⟨ga, gc⟩, ⟨s0, t0⟩, ⟨s1, t1⟩, ⟨s2, t2⟩⟩ T Z gs0 q v wr) (fun _ i _ => n - (intOf i).toNat)
  case atStart => exact ⟨0, by omega, rfl, CX3.out, OD.out, OR.out, OB.out, [], none, 0, rfl, rfl, Owns.nil, fun g hg => (by cases hg), fun g hg => (by cases hg)⟩
  case round =>
    obtain ⟨q, hq, rfl, hL⟩ := hrel
    have HL := Lib.hid hL
    clear hL
    have c4 : wr.cell? ⟨w.heap.size, 104, none⟩ = some (.slice ga n gc) := by rw [HL.out.cx.cell, at_g _ HT.out.ph HT.out.cf, HN.out]
    by_cases hlt : q < n
    · have hgq0 : gs0[q]? = some (gs0[q]'(by have := NL.out; omega)) := List.getElem?_eq_getElem _
      generalize gs0[q]'(by have := NL.out; omega) = g0 at hgq0
      obtain ⟨xg, hxg, hlx⟩ := RowOf.at HGL.out hgq0
      have hga : ga = some xg := hxg
      subst hga
      have hok := HGO.out g0 (List.mem_of_getElem? hgq0)
      have hsr := SR.out g0 (List.mem_of_getElem? hgq0)
      obtain ⟨r0, r1, ⟨a0, b0⟩, ⟨a1, b1⟩⟩ := g0
      have HQ := Lib.hid hgq0
      have HLX := Lib.hid hlx
      have HOK := Lib.hid hok
      have HSR := Lib.hid hsr
      clear hgq0 hlx hok hsr
      have hqi : (q : Int) < n := by omega
      have HLT := Lib.hid hlt
      have SF : Hid (∀ v W m, Lp w ⟨⟨some xg, gc⟩, ⟨s0, t0⟩, ⟨s1, t1⟩, ⟨s2, t2⟩⟩ T Z gs0 m v W → W.cell? ⟨w.heap.size, 104, none⟩ = some (.slice (some xg) n gc) ∧ W.cell? (xg.add (q * 2)) = some (.slice a0 r0.length b0) ∧ W.cell? ⟨(xg.add (q * 2)).block, (xg.add (q * 2)).off + 1, none⟩ = some (.slice a1 r1.length b1)) := Lib.hid (fun v W m hL => by
        have hl := HLX.out.below hL.cx.bel
        refine ⟨by rw [hL.cx.cell, at_g _ HT.out.ph HT.out.cf, HN.out], ?_, hl 1 _ rfl⟩
        have := hl 0 _ rfl
        rwa [Tab.add_two, Nat.add_zero] at this)
      go_upto_region 8 with fail
      clear c4
      refine wp_region_held (S := fun v => v.cell? ⟨w.heap.size, 104, none⟩ = some (.slice (some xg) n gc) ∧ v.cell? (xg.add (q * 2)) = some (.slice a0 r0.length b0) ∧ v.cell? ⟨(xg.add (q * 2)).block, (xg.add (q * 2)).off + 1, none⟩ = some (.slice a1 r1.length b1)) (by kernel_rfl) ?_
      have L1 : Hid (Lp w ⟨⟨some xg, gc⟩, ⟨s0, t0⟩, ⟨s1, t1⟩, ⟨s2, t2⟩⟩ T Z gs0 q u3 { wr with drawn := wr.drawn + 1 }) := Lib.hid (HL.out.step (Below.refl _ _).drew)
      have hS := SF.out _ _ _ L1.out
      generalize ({ wr with drawn := wr.drawn + 1 } : World) = v at hS L1 ⊢
      clear HL
      refine Held.take (i := 0) (some 24) rfl (v := ?_) rfl (by kernel_rfl) (by kernel_rfl) (by kernel_rfl) (fun _ _ _ h => h) (Or.inl ⟨by rfl, ?_⟩) hS ?_
      rotate_left
      · intro w' hw'
        go_simp
        try with_reducible rfl
      (try dsimp only [Act.put]); (try simp only [List.setIfInBounds_toArray, List.set_cons_zero, List.set_cons_succ])
      refine Held.take (i := 1) (some 25) rfl (v := ?_) rfl (by kernel_rfl) (by kernel_rfl) (by kernel_rfl) (fun _ _ _ h => h) (Or.inl ⟨by rfl, ?_⟩) hS ?_
      rotate_left
      · intro w' hw'
        go_simp
        try with_reducible rfl
      (try dsimp only [Act.put]); (try simp only [List.setIfInBounds_toArray, List.set_cons_zero, List.set_cons_succ])
      refine Held.take (i := 2) (some 26) rfl (v := ?_) rfl (by kernel_rfl) (by kernel_rfl) (by kernel_rfl) (fun _ _ _ h => h) (Or.inl ⟨by rfl, ?_⟩) hS ?_
      rotate_left
      · intro w' hw'
        have cf := hw'.1
        go_simp
        try with_reducible rfl
      (try dsimp only [Act.put]); (try simp only [List.setIfInBounds_toArray, List.set_cons_zero, List.set_cons_succ])
      refine Held.take (i := 3) (some 27) rfl (v := ?_) rfl (by kernel_rfl) (by kernel_rfl) (by kernel_rfl) (fun _ _ _ h => h) (Or.inl ⟨by rfl, ?_⟩) hS ?_
      rotate_left
      · intro w' hw'
        go_simp
        try with_reducible rfl
      (try dsimp only [Act.put]); (try simp only [List.setIfInBounds_toArray, List.set_cons_zero, List.set_cons_succ])
      refine Held.take (i := 4) (some 28) rfl (v := ?_) rfl (by kernel_rfl) (by kernel_rfl) (by kernel_rfl) (fun _ _ _ h => h) (Or.inl ⟨by rfl, ?_⟩) hS ?_
      rotate_left
      · intro w' hw'
        go_simp
        try with_reducible rfl
      (try dsimp only [Act.put]); (try simp only [List.setIfInBounds_toArray, List.set_cons_zero, List.set_cons_succ])
      refine Held.take (i := 5) (some 29) rfl (v := ?_) rfl (by kernel_rfl) (by kernel_rfl) (by kernel_rfl) (fun _ _ _ h => h) (Or.inl ⟨by rfl, ?_⟩) hS ?_
      rotate_left
      · intro w' hw'
        go_simp
        try with_reducible rfl
      (try dsimp only [Act.put]); (try simp only [List.setIfInBounds_toArray, List.set_cons_zero, List.set_cons_succ])
      refine Held.take (i := 6) (some 30) rfl (v := ?_) rfl (by kernel_rfl) (by kernel_rfl) (by kernel_rfl) (fun _ _ _ h => h) (Or.inl ⟨by rfl, ?_⟩) hS ?_
      rotate_left
      · intro w' hw'
        have cf := hw'.2.1
        go_simp
        try with_reducible rfl
      (try dsimp only [Act.put]); (try simp only [List.setIfInBounds_toArray, List.set_cons_zero, List.set_cons_succ])
      refine Held.take (i := 8) (some 32) rfl (v := ?_) rfl (by kernel_rfl) (by kernel_rfl) (by kernel_rfl) (fun _ _ _ h => h) (Or.inl ⟨by rfl, ?_⟩) hS ?_
      rotate_left
      · intro w' hw'
        go_simp
        try with_reducible rfl
      (try dsimp only [Act.put]); (try simp only [List.setIfInBounds_toArray, List.set_cons_zero, List.set_cons_succ])
      refine Held.take (i := 9) (some 33) rfl (v := ?_) rfl (by kernel_rfl) (by kernel_rfl) (by kernel_rfl) (fun _ _ _ h => h) (Or.inl ⟨by rfl, ?_⟩) hS ?_
      rotate_left
      · intro w' hw'
        have cf := hw'.1
        go_simp
        try with_reducible rfl
      (try dsimp only [Act.put]); (try simp only [List.setIfInBounds_toArray, List.set_cons_zero, List.set_cons_succ])
      refine Held.take (i := 10) (some 34) rfl (v := ?_) rfl (by kernel_rfl) (by kernel_rfl) (by kernel_rfl) (fun _ _ _ h => h) (Or.inl ⟨by rfl, ?_⟩) hS ?_
      rotate_left
      · intro w' hw'
        go_simp
        try with_reducible rfl
      (try dsimp only [Act.put]); (try simp only [List.setIfInBounds_toArray, List.set_cons_zero, List.set_cons_succ])
      refine Held.take (i := 11) (some 35) rfl (v := ?_) rfl (by kernel_rfl) (by kernel_rfl) (by kernel_rfl) (fun _ _ _ h => h) (Or.inl ⟨by rfl, ?_⟩) hS ?_
      rotate_left
      · intro w' hw'
        go_simp
        try with_reducible rfl
      (try dsimp only [Act.put]); (try simp only [List.setIfInBounds_toArray, List.set_cons_zero, List.set_cons_succ])
      refine Held.take (i := 12) (some 36) rfl (v := ?_) rfl (by kernel_rfl) (by kernel_rfl) (by kernel_rfl) (fun _ _ _ h => h) (Or.inl ⟨by rfl, ?_⟩) hS ?_
      rotate_left
      · intro w' hw'
        go_simp
        try with_reducible rfl
      (try dsimp only [Act.put]); (try simp only [List.setIfInBounds_toArray, List.set_cons_zero, List.set_cons_succ])
      refine Held.take (i := 13) (some 37) rfl (v := ?_) rfl (by kernel_rfl) (by kernel_rfl) (by kernel_rfl) (fun _ _ _ h => h) (Or.inl ⟨by rfl, ?_⟩) hS ?_
      rotate_left
      · intro w' hw'
        have cf := hw'.2.2
        go_simp
        try with_reducible rfl
      (try dsimp only [Act.put]); (try simp only [List.setIfInBounds_toArray, List.set_cons_zero, List.set_cons_succ])
      refine wpAnyH_ready (rs := [7]) (by kernel_rfl) (by simp) (AllReadyH.cons rfl (fun K hK => ?_) AllReadyH.nil)
      rw [if_pos (by rfl)]
      refine wp_copyI2 (.const (.slice none 0 0)) (.tmp 30) rfl rfl a0 b0 r0 rfl (HOK.out.1.below L1.out.cx.bel) HSR.out.1 ?_
      intro p0 q0 v2 hr0 hl0 hb
      have LC0 : Hid (∀ x, p0 = some x → w.heap.size ≤ x.block) := Lib.hid (fun x hx => Nat.le_trans L1.out.cx.bel.size (hl0 x hx))
      clear hl0
      have L2 := Lib.hid (L1.out.step hb)
      refine hK.out _ _ (SF.out _ _ _ L2.out) (fun hS => ?_)
      clear hK K hb L1
      (try dsimp only [Act.put]); (try simp only [List.setIfInBounds_toArray, List.set_cons_zero, List.set_cons_succ])
      refine wpAnyH_ready (rs := [14]) (by kernel_rfl) (by simp) (AllReadyH.cons rfl (fun K hK => ?_) AllReadyH.nil)
      rw [if_pos (by rfl)]
      refine wp_copyI2 (.const (.slice none 0 0)) (.tmp 37) rfl rfl a1 b1 r1 rfl (HOK.out.2.below L2.out.cx.bel) HSR.out.2 ?_
      intro p1 q1 v3 hr1 hl1 hb
      have LC1 : Hid (∀ x, p1 = some x → w.heap.size ≤ x.block) := Lib.hid (fun x hx => Nat.le_trans L2.out.cx.bel.size (hl1 x hx))
      clear hl1
      have R0 := Lib.hid (hr0.below hb)
      have R1 := Lib.hid hr1
      have L3 := Lib.hid (L2.out.step hb)
      refine hK.out _ _ (SF.out _ _ _ L3.out) (fun hS => ?_)
      clear hK K hb L2 hr0 hr1
      (try dsimp only [Act.put]); (try simp only [List.setIfInBounds_toArray, List.set_cons_zero, List.set_cons_succ])
      refine Held.take_build (i := 15) (some 39) rfl 36 _ #[.slice p0 r0.length q0, .slice p1 r1.length q1] rfl rfl (by kernel_rfl) (by kernel_rfl) (by kernel_rfl) (fun _ _ _ h => h) (by rfl) hS (by simp only [List.map_toArray, List.map_cons, List.map_nil]; exact builtG _ _ _ _ _ _) ?_
      (try dsimp only [Act.put]); (try simp only [List.setIfInBounds_toArray, List.set_cons_zero, List.set_cons_succ])
      refine wpAnyH_ready (rs := [16]) (by kernel_rfl) (by simp) (AllReadyH.cons rfl (fun K hK => ?_) AllReadyH.nil)
      go_simp
      have hbw : Below v3.heap.size v3 (v3.alloc (.cells #[.slice p0 r0.length q0, .slice p1 r1.length q1] 36)) := (Below.refl _ _).alloc (Nat.le_refl _) _
      have hN := heap_alloc_new v3 (.cells #[.slice p0 r0.length q0, .slice p1 r1.length q1] 36)
      have L4 := Lib.hid (L3.out.step hbw)
      have R2 := Lib.hid (R0.out.below hbw)
      have R3 := Lib.hid (R1.out.below hbw)
      have BN := Lib.hid L3.out.cx.bel.size
      clear hbw L3 R0 R1
      generalize hbn : v3.heap.size = bn at hN BN ⊢
      clear hbn
      generalize World.alloc v3 (.cells #[.slice p0 r0.length q0, .slice p1 r1.length q1] 36) = v4 at L4 R2 R3 hN ⊢
      refine hK.out _ _ (SF.out _ _ _ L4.out) (fun hS => ?_)
      clear hK K
      (try dsimp only [Act.put]); (try simp only [List.setIfInBounds_toArray, List.set_cons_zero, List.set_cons_succ])
      refine wpAnyH_ready (rs := [17]) (by kernel_rfl) (by simp) (AllReadyH.cons rfl (fun K hK => ?_) AllReadyH.nil)
      rw [if_pos (by rfl)]
      obtain ⟨gs, la, lc, hu3, hd1, hown, hrows, hlcs⟩ := L4.out.own
      have hgl : gs.length = q := by
        have := congrArg List.length hd1
        rw [List.length_map, List.length_map, List.length_take] at this
        have := NL.out
        omega
      subst hu3
      have hown2 : v4.ownsRow w.heap.size 36 2 (.slice la q lc) q (gs.flatMap Gr.cells) := by have := hown; unfold Owns at this; rw [hgl] at this; exact this
      refine wp_append_own _ _ _ _ rfl w.heap.size 36 j0 (.agg #[.slice none 0 0, .slice none 0 0]) 2 48 Try.underlying26 hj hy0 hy1 hy2 rfl (by decide) (.slice la q lc) q _ rfl hown2 ⟨bn, 0, none⟩ 1 1 [.slice p0 r0.length q0, .slice p1 r1.length q1] rfl rfl ?c1 ?c2 ?c3 ?c4 L4.out.cx.bel.size ?_
      case c1 =>
        intro j e hj
        match j, hj with
        | 0, hj => simp at hj; subst hj; rw [Tab.add_zero, cell_of_row _ _ _ _ _ _ hN]; rfl
        | 1, hj => simp at hj; subst hj; rw [Tab.add_one, cell_of_row _ _ _ _ _ _ hN]; rfl
      case c2 => intro e he; simp at he; rcases he with rfl | rfl <;> rfl
      case c3 => have := SG.out; unfold maxLen; omega
      case c4 => have := SG.out; omega
      intro v' w5 hown' hgrow hnil'
      have LN := Lib.hid (Lp.put (x := ⟨r0, r1, ⟨p0, q0⟩, ⟨p1, q1⟩⟩) L4.out hgl hd1 hown hrows HQ.out rfl ⟨R2.out, R3.out⟩ hlcs ⟨LC0.out, LC1.out⟩ hgrow hown')
      clear hown' hgrow hown2 hnil' hN hown hrows hlcs hd1 hgl L4 R2 R3 BN LC0 LC1
      refine hK.out _ _ (SF.out _ _ _ LN.out) (fun hS => ?_)
      clear hK K
      (try dsimp only [Act.put]); (try simp only [List.setIfInBounds_toArray, List.set_cons_zero, List.set_cons_succ])
      refine wpAnyH_ready (rs := [18]) (by kernel_rfl) (by simp) (AllReadyH.cons rfl (fun K hK => ?_) AllReadyH.nil)
      go_simp
      refine hK.out _ _ (SF.out _ _ _ LN.out) (fun hS => ?_)
      clear hK K
      refine wpAnyH_done (by kernel_rfl) ?_ _
      clear hS
      have hb1 := SG.out
      have hb2 := HLT.out
      go_wp2
      go_roundw
      case rel => exact ⟨q + 1, Nat.succ_le_of_lt HLT.out, by go_num, LN.out⟩
      case measure => have := HLT.out; simp [intOf]; omega
    · have hqn : q = gs0.length := by have := NL.out; omega
      have hqi : ¬ (q : Int) < n := by omega
      subst hqn
      have f2 := HL.out.cx.frozen 104
      have hv : ∃ la lc, u3 = .slice la gs0.length lc := by obtain ⟨gs, la, lc, e, _⟩ := HL.out.own; exact ⟨la, lc, e⟩
      obtain ⟨la, lc, rfl⟩ := hv
      obtain ⟨hd', w8, hli, hst, hbk, htab, hown, hgl, hbel⟩ := HL.out.fin HGD.out ZS.out HT.out.ph HT.out.cf HT.out.fl
      have IA : Hid ((Try.prog.info? 32).map (·.size) = some (T.cells hd').length) := Lib.hid (by rw [cells_cut _ HT.out.ph HT.out.cf HT.out.fl]; exact May.infoT)
      have LT := Lib.hid hli
      have FI : Hid (∃ hd, Ending.returned (.agg (T.cells hd').toArray) = .returned (.agg (T.cells hd).toArray) ∧ IsTab w8 hd T ∧ Own3 w.heap.size w8 hd T ∧ GrL w.heap.size w8 hd.g T.groups ∧ Below w.heap.size w w8) := Lib.hid ⟨hd', rfl, htab, hown, hgl, hbel⟩
      have HK := Lib.hid hbk
      have csl := cells_cut hd' HT.out.ph HT.out.cf HT.out.fl
      clear hli hbk htab hown hgl hbel
      generalize T.cells hd' = cs at *
      go_wp2_with (refine Row.wpList_load_g 32 _ rfl (by first | rfl | go_simp) ⟨w.heap.size, 0, none⟩ rfl cs _ LT.out Try.underlying32 rfl IA.out ?_)
      (try simp only [Exit.inBlock, Exit.then])
      refine bodyPost_ret (v := .agg cs.toArray) ?_ rfl FI.out
      exact results_cell_row rfl _ _ (w.heap.size + 1) 32 _ (0, 0) _ rfl HK.out Try.underlying32 rfl (by have := IA.out; simpa using this)
end ClR
namespace UO
open Go.ChangeShapes Go.WideShapes Go.ChangeAt Go.RowKit
open Tab Copy Owned Clone
section
variable {α β : Type} {enc : α → List β} {n : Nat}
theorem flat_set (henc : ∀ x, (enc x).length = n) : ∀ (l : List α) (i j : Nat) (x x' : α) (v : β), l[i]? = some x → j < n → enc x' = (enc x).set j v → (l.flatMap enc).set (i * n + j) v = (l.set i x').flatMap enc
  | [], i, j, x, x', v, h, _, _ => by simp at h
  | y :: l, 0, j, x, x', v, h, hj, e => by
    obtain rfl : y = x := by simpa using h
    rw [List.flatMap_cons, List.set_cons_zero, List.flatMap_cons, e, Nat.zero_mul, Nat.zero_add, List.set_append_left _ _ (by rw [henc]; exact hj)]
  | y :: l, i + 1, j, x, x', v, h, hj, e => by
    rw [List.flatMap_cons, List.set_cons_succ, List.flatMap_cons, List.set_append_right _ _ (by rw [henc, Nat.add_mul]; omega), ← flat_set henc l i j x x' v (by simpa using h) hj e, henc, show (i + 1) * n + j - n = i * n + j by rw [Nat.add_mul]; omega]
theorem flat_same : ∀ (l : List α) (i : Nat) (x x' : α), l[i]? = some x → enc x' = enc x → (l.set i x').flatMap enc = l.flatMap enc
  | [], i, x, x', h, _ => by simp at h
  | y :: l, 0, x, x', h, e => by
    obtain rfl : y = x := by simpa using h
    rw [List.set_cons_zero, List.flatMap_cons, List.flatMap_cons, e]
  | y :: l, i + 1, x, x', h, e => by
    rw [List.set_cons_succ, List.flatMap_cons, List.flatMap_cons, flat_same l i x x' (by simpa using h) e]
theorem flat_get (henc : ∀ x, (enc x).length = n) : ∀ (l : List α) (i j : Nat) (x : α), l[i]? = some x → j < n → (l.flatMap enc)[i * n + j]? = (enc x)[j]?
  | [], i, j, x, h, _ => by simp at h
  | y :: l, 0, j, x, h, hj => by
    obtain rfl : y = x := by simpa using h
    rw [List.flatMap_cons, Nat.zero_mul, Nat.zero_add, List.getElem?_append_left (by rw [henc]; exact hj)]
  | y :: l, i + 1, j, x, h, hj => by
    rw [List.flatMap_cons, List.getElem?_append_right (by rw [henc, Nat.add_mul]; omega), henc, show (i + 1) * n + j - n = i * n + j by rw [Nat.add_mul]; omega]
    exact flat_get henc l i j x (by simpa using h) hj
end
/-- A row of numbers, its block, and all that lies there. -/
structure Rw where
  r : List Int
  b : Nat
  cur : List Value
structure Rw.Ok (x : Rw) : Prop where
  pre : x.cur.take x.r.length = x.r.map I
  len : x.r.length ≤ x.cur.length
  most : x.cur.length ≤ maxLen
def Rw.sl (x : Rw) : Sl := ⟨some ⟨x.b, 0, none⟩, x.cur.length⟩
def Rw.blk (x : Rw) : Blk := ⟨x.b, x.cur, 3⟩
/-- A number is written. -/
def Rw.upd (x : Rw) (i : Nat) (z : Int) : Rw := ⟨x.r.set i z, x.b, x.cur.set i (I z)⟩
theorem Rw.Ok.upd {x : Rw} (h : x.Ok) (i : Nat) (z : Int) : (x.upd i z).Ok := by
  refine ⟨?_, by simpa [Rw.upd] using h.len, by simpa [Rw.upd] using h.most⟩
  show (x.cur.set i (I z)).take (x.r.set i z).length = (x.r.set i z).map I
  rw [List.length_set, List.take_set, h.pre, List.map_set]
theorem Rw.Ok.at {x : Rw} (h : x.Ok) {i : Nat} {z : Int} (hz : x.r[i]? = some z) : x.cur[i]? = some (I z) := by
  have hi : i < x.r.length := (List.getElem?_eq_some_iff.1 hz).1
  have : (x.cur.take x.r.length)[i]? = (x.r.map I)[i]? := by rw [h.pre]
  rwa [List.getElem?_take, if_pos hi, List.getElem?_map, hz] at this
theorem row_cur {w : World} {x : Rw} (h : x.Ok) (hb : w.heap[x.b]? = some (.cells x.cur.toArray 3 (0, 0))) : IntRow w x.sl x.r := by
  refine .inr ⟨⟨x.b, 0, none⟩, rfl, h.len, h.most, fun i v hv => ?_⟩
  intro j u hu
  cases j with
  | succ j => simp at hu
  | zero =>
    obtain rfl := Option.some.inj hu
    rw [Nat.mul_one, Tab.add_zero, Addr.add_mid, Nat.zero_add, cell_of_row _ _ _ _ _ _ hb]
    have := h.at hv
    simpa using this
structure G2 where
  x : Rw
  y : Rw
def G2.gr (n : G2) : Gr := ⟨n.x.r, n.y.r, n.x.sl, n.y.sl⟩
def G2.cells (n : G2) : List Value := n.gr.cells
def G2.blks (n : G2) : List Blk := [n.x.blk, n.y.blk]
def G2.row (n : G2) (k : Nat) : Rw := if k = 0 then n.x else n.y
def G2.put (n : G2) (k : Nat) (z : Rw) : G2 := if k = 0 then ⟨z, n.y⟩ else ⟨n.x, z⟩
def G2.Ok (n : G2) : Prop := n.x.Ok ∧ n.y.Ok
theorem G2.Ok.row {n : G2} (h : n.Ok) (k : Nat) : (n.row k).Ok := by unfold G2.row; split; exact h.1; exact h.2
theorem G2.Ok.put {n : G2} (h : n.Ok) (k : Nat) {z : Rw} (hz : z.Ok) : (n.put k z).Ok := by unfold G2.put; split; exact ⟨hz, h.2⟩; exact ⟨h.1, hz⟩
theorem put_blks (n : G2) {k : Nat} (hk : k < 2) (z : Rw) : (n.put k z).blks = n.blks.set k z.blk := by
  match k, hk with
  | 0, _ => rfl
  | 1, _ => rfl
theorem blks_at (n : G2) {k : Nat} (hk : k < 2) : n.blks[k]? = some (n.row k).blk := by
  match k, hk with
  | 0, _ => rfl
  | 1, _ => rfl
theorem cells_row (n : G2) {k : Nat} (hk : k < 2) : n.cells[k]? = some ((n.row k).sl.val (n.row k).r.length) := by
  match k, hk with
  | 0, _ => rfl
  | 1, _ => rfl
theorem put_cells (n : G2) {k : Nat} (hk : k < 2) (z : Rw) : (n.put k z).cells = n.cells.set k (z.sl.val z.r.length) := by
  match k, hk with
  | 0, _ => rfl
  | 1, _ => rfl
theorem upd_cells (n : G2) {k : Nat} (hk : k < 2) (i : Nat) (z : Int) : (n.put k ((n.row k).upd i z)).cells = n.cells := by
  match k, hk with
  | 0, _ => simp [G2.put, G2.row, G2.cells, G2.gr, Gr.cells, Rw.upd, Rw.sl]
  | 1, _ => simp [G2.put, G2.row, G2.cells, G2.gr, Gr.cells, Rw.upd, Rw.sl]
/-- Where its parts lie. -/
def own (ub : Nat) (c : List Value) (ns : List G2) (G D R S : Nat) (ds : List Det) (rs : List Rl) (bs : List Bs) : List Blk :=
  ⟨ub, c, 32⟩ :: ⟨G, ns.flatMap G2.cells, 36⟩ :: ⟨D, ds.flatMap Det.cells, 39⟩ :: ⟨R, rs.flatMap Rl.cells, 41⟩ :: ⟨S, bs.flatMap Bs.cells, 43⟩ :: ns.flatMap G2.blks
/-- The clone, as it stands; what is older than B, and what lies from lo to hi, is as it was in w0. -/
structure Uo (B lo hi : Nat) (w0 : World) (ub : Nat) (c : List Value) (G D R S : Nat) (w : World) (ns : List G2) (ds : List Det) (rs : List Rl) (bs : List Bs) : Prop where
  own : Owned.Own B w (own ub c ns G D R S ds rs bs)
  ok : ∀ n ∈ ns, n.Ok
  bel : Below B w0 w
  mid : ∀ j, lo ≤ j → j < hi → w.heap[j]? = w0.heap[j]?
  apart : ∀ x ∈ UO.own ub c ns G D R S ds rs bs, x.at_ < lo ∨ hi ≤ x.at_
  size : hi ≤ w.heap.size
section
variable {B lo hi : Nat} {w0 : World} {ub : Nat} {c : List Value} {G D R S : Nat} {w w' : World} {ns : List G2} {ds : List Det} {rs : List Rl} {bs : List Bs}
/-- A cell of a block is written. -/
theorem Uo.cell_set (h : Uo B lo hi w0 ub c G D R S w ns ds rs bs) {i : Nat} {x : Blk} (hx : (UO.own ub c ns G D R S ds rs bs)[i]? = some x) (o : Nat) (v : Value) {ns' : List G2} {ds' : List Det} {rs' : List Rl} {bs' : List Bs}
    (he : (UO.own ub c ns G D R S ds rs bs).set i ⟨x.at_, x.cells.set o v, x.type⟩ = UO.own ub c ns' G D R S ds' rs' bs') (hok : ∀ n ∈ ns', n.Ok) : Uo B lo hi w0 ub c G D R S (w.setCell ⟨x.at_, o, none⟩ v) ns' ds' rs' bs' := by
  have hm := List.mem_of_getElem? hx
  refine ⟨by rw [← he]; exact h.own.cell_at hx o v, hok, Owned.below_write h.bel (h.own.base hm) v, fun j h1 h2 => ?_, fun y hy => ?_, by rw [World.size_setCell]; exact h.size⟩
  · have := h.apart x hm
    rw [Below.heap_setCell _ _ _ j (by show j ≠ x.at_; omega)]
    exact h.mid j h1 h2
  · rw [← he] at hy
    rcases List.mem_or_eq_of_mem_set hy with hy | rfl
    · exact h.apart y hy
    · exact h.apart x hm
theorem get_row {g k : Nat} {n : G2} (hn : ns[g]? = some n) (hk : k < 2) : (UO.own ub c ns G D R S ds rs bs)[5 + (g * 2 + k)]? = some (n.row k).blk := by
  rw [Nat.add_comm]
  show (ns.flatMap G2.blks)[g * 2 + k]? = _
  rw [flat_get (n := 2) (fun _ => rfl) ns g k n hn hk, blks_at n hk]
theorem set_row {g k : Nat} {n : G2} (hn : ns[g]? = some n) (hk : k < 2) (z : Rw) (hc : (ns.set g (n.put k z)).flatMap G2.cells = ns.flatMap G2.cells) : (UO.own ub c ns G D R S ds rs bs).set (5 + (g * 2 + k)) z.blk = UO.own ub c (ns.set g (n.put k z)) G D R S ds rs bs := by
  rw [Nat.add_comm]
  unfold UO.own
  rw [hc, ← flat_set (n := 2) (fun _ => rfl) ns g k n (n.put k z) z.blk hn hk (put_blks n hk z)]
  rfl
theorem ok_set {g : Nat} {m : G2} (h : ∀ n ∈ ns, n.Ok) (hm : m.Ok) : ∀ n ∈ ns.set g m, n.Ok := fun n hn => by
  rcases List.mem_or_eq_of_mem_set hn with hn | rfl
  · exact h n hn
  · exact hm
/-- A number of a row is written. -/
theorem Uo.inc (h : Uo B lo hi w0 ub c G D R S w ns ds rs bs) {g k i : Nat} {n : G2} (hn : ns[g]? = some n) (hk : k < 2) (z : Int) :
    Uo B lo hi w0 ub c G D R S (w.setCell ⟨(n.row k).b, i, none⟩ (I z)) (ns.set g (n.put k ((n.row k).upd i z))) ds rs bs := by
  have hnm := List.mem_of_getElem? hn
  refine h.cell_set (x := (n.row k).blk) (get_row hn hk) i (I z) ?_ (ok_set h.ok ((h.ok n hnm).put k (((h.ok n hnm).row k).upd i z)))
  exact set_row hn hk ((n.row k).upd i z) (flat_same ns g n _ hn (upd_cells n hk i z))
/-- The cell of a row's number, of the slice of a row. -/
theorem Uo.num (h : Uo B lo hi w0 ub c G D R S w ns ds rs bs) {g k i : Nat} {n : G2} (hn : ns[g]? = some n) (hk : k < 2) {z : Int} (hz : (n.row k).r[i]? = some z) : w.cell? ⟨(n.row k).b, i, none⟩ = some (I z) ∧ w.frozen? ⟨(n.row k).b, i, none⟩ = false := by
  have hm := List.mem_of_getElem? (get_row (ub := ub) (c := c) (G := G) (D := D) (R := R) (S := S) (ds := ds) (rs := rs) (bs := bs) hn hk)
  refine ⟨?_, h.own.frozen hm i⟩
  have := h.own.cell hm i
  exact this.trans (((h.ok n (List.mem_of_getElem? hn)).row k).at hz)
theorem Uo.slice (h : Uo B lo hi w0 ub c G D R S w ns ds rs bs) {g k : Nat} {n : G2} (hn : ns[g]? = some n) (hk : k < 2) : w.cell? ⟨G, g * 2 + k, none⟩ = some ((n.row k).sl.val (n.row k).r.length) ∧ w.frozen? ⟨G, g * 2 + k, none⟩ = false := by
  have hm : (⟨G, ns.flatMap G2.cells, 36⟩ : Blk) ∈ UO.own ub c ns G D R S ds rs bs := List.mem_cons_of_mem _ (List.mem_cons_self ..)
  refine ⟨?_, h.own.frozen hm _⟩
  have := h.own.cell hm (g * 2 + k)
  exact this.trans ((flat_get (n := 2) (fun _ => rfl) ns g k n hn hk).trans (cells_row n hk))
theorem Uo.box (h : Uo B lo hi w0 ub c G D R S w ns ds rs bs) (i : Nat) : w.cell? ⟨ub, i, none⟩ = c[i]? := h.own.cell (x := ⟨ub, c, 32⟩) (List.mem_cons_self ..) i
theorem Uo.blk (h : Uo B lo hi w0 ub c G D R S w ns ds rs bs) : w.heap[ub]? = some (.cells c.toArray 32 (0, 0)) := h.own.get (x := ⟨ub, c, 32⟩) (List.mem_cons_self ..)
/-- Memory is made; nothing that lies is written. -/
theorem Uo.step (h : Uo B lo hi w0 ub c G D R S w ns ds rs bs) (hB : B ≤ w.heap.size) (hb : Below w.heap.size w w') : Uo B lo hi w0 ub c G D R S w' ns ds rs bs :=
  ⟨h.own.step hb, h.ok, h.bel.trans (hb.mono hB), fun j h1 h2 => (hb.block j (Nat.lt_of_lt_of_le h2 h.size)).trans (h.mid j h1 h2), h.apart, Nat.le_trans h.size hb.size⟩
/-- A block in another one's place. -/
theorem own_swap {L : List Blk} {i : Nat} {x y : Blk} (h : Owned.Own B w L) (hx : L[i]? = some x) (hb : Below w.heap.size w w') (hy : w'.heap[y.at_]? = some (.cells y.cells.toArray y.type (0, 0))) (hn : w.heap.size ≤ y.at_) (hB : B ≤ w.heap.size) : Owned.Own B w' (L.set i y) := by
  have hi : i < L.length := (List.getElem?_eq_some_iff.1 hx).1
  have hperm : (L.set i y).Perm (y :: (L.take i ++ L.drop (i + 1))) := by
    rw [List.set_eq_take_append_cons_drop, if_pos hi]
    exact List.perm_middle
  have hsub : (L.take i ++ L.drop (i + 1)).Sublist L := by
    have : L.take i ++ L.drop i = L := List.take_append_drop i L
    conv => rhs; rw [← this]
    exact List.Sublist.append (List.Sublist.refl _) (by rw [← List.drop_drop]; exact List.drop_sublist _ _)
  refine (Owned.Own.perm ?_ hperm)
  refine ⟨List.nodup_cons.2 ⟨fun hm => ?_, ?_⟩, fun z hz => ?_⟩
  · obtain ⟨z, hz, e⟩ := List.mem_map.1 hm
    have := h.lt (hsub.subset hz)
    omega
  · exact List.Nodup.sublist (hsub.map Blk.at_) h.1
  · rcases List.mem_cons.1 hz with rfl | hz
    · exact ⟨Nat.le_trans hB hn, hy⟩
    · exact (h.step hb).2 z (hsub.subset hz)
theorem grown_below {w w' : World} (hg : w.grownBy w' none) : Below w.heap.size w w' := (Below.refl _ _).grown hg (Nat.le_refl _) (fun k hk => by cases hk)
/-- The first row of a group has grown by one, in a new block; its slice is stored. -/
theorem Uo.grow (h : Uo B lo hi w0 ub c G D R S w ns ds rs bs) (hB : B ≤ w.heap.size) {g : Nat} {n : G2} (hn : ns[g]? = some n) {v' : Value} {z : Int} (ho : w'.ownsRow w.heap.size 3 1 v' (n.x.r.length + 1) (n.x.r.map I ++ [I z])) (hg : w.grownBy w' none) :
    ∃ x' : Rw, x'.r = n.x.r ++ [z] ∧ v' = .slice (some ⟨x'.b, 0, none⟩) (n.x.r.length + 1) x'.cur.length ∧ Uo B lo hi w0 ub c G D R S (w'.setCell ⟨G, g * 2, none⟩ v') (ns.set g (n.put 0 x')) ds rs bs := by
  have hb := grown_below hg
  rcases ho.2 with ⟨_, h0⟩ | ⟨nb, cap, cur, rfl, h1, h2, h3, h4, h5, h6⟩
  · omega
  have hcl : cur.toList.length = cap := by rw [Array.length_toList, h5, Nat.mul_one]
  refine ⟨⟨n.x.r ++ [z], nb, cur.toList⟩, rfl, by rw [hcl], ?_⟩
  have hxok : Rw.Ok ⟨n.x.r ++ [z], nb, cur.toList⟩ := ⟨by rw [List.length_append, List.map_append]; rw [Nat.mul_one] at h6; exact h6, by rw [List.length_append, hcl]; exact h3, by rw [hcl]; exact h4⟩
  have hnm := List.mem_of_getElem? hn
  -- the row's block
  have o1 : Owned.Own B w' ((UO.own ub c ns G D R S ds rs bs).set (5 + (g * 2 + 0)) ⟨nb, cur.toList, 3⟩) := own_swap h.own (get_row hn (by decide)) hb (by simpa using h2) h1 hB
  have e0 : ((UO.own ub c ns G D R S ds rs bs).set (5 + (g * 2 + 0)) ⟨nb, cur.toList, 3⟩)[1]? = some ⟨G, ns.flatMap G2.cells, 36⟩ := by
    rw [List.getElem?_set_ne (by omega)]; rfl
  have o2 := o1.cell_at e0 (g * 2) (.slice (some ⟨nb, 0, none⟩) (n.x.r.length + 1) cap)
  have e1 : ((UO.own ub c ns G D R S ds rs bs).set (5 + (g * 2 + 0)) ⟨nb, cur.toList, 3⟩).set 1 ⟨G, (ns.flatMap G2.cells).set (g * 2) (.slice (some ⟨nb, 0, none⟩) (n.x.r.length + 1) cap), 36⟩ = UO.own ub c (ns.set g (n.put 0 ⟨n.x.r ++ [z], nb, cur.toList⟩)) G D R S ds rs bs := by
    rw [Nat.add_comm]
    unfold UO.own
    rw [← flat_set (enc := G2.blks) (n := 2) (fun _ => rfl) ns g 0 n (n.put 0 ⟨n.x.r ++ [z], nb, cur.toList⟩) (Rw.blk ⟨n.x.r ++ [z], nb, cur.toList⟩) hn (by decide) (put_blks n (by decide) _), ← flat_set (enc := G2.cells) (n := 2) (fun _ => rfl) ns g 0 n (n.put 0 ⟨n.x.r ++ [z], nb, cur.toList⟩) (.slice (some ⟨nb, 0, none⟩) (n.x.r.length + 1) cap) hn (by decide) (by rw [put_cells n (by decide)]; simp [Rw.sl, hcl])]
    rfl
  have hGm : (⟨G, ns.flatMap G2.cells, 36⟩ : Blk) ∈ UO.own ub c ns G D R S ds rs bs := List.mem_cons_of_mem _ (List.mem_cons_self ..)
  have hGa := h.apart _ hGm
  refine ⟨by rw [← e1]; exact o2, ok_set h.ok ((h.ok n hnm).put 0 hxok), Owned.below_write (h.bel.trans (hb.mono hB)) (h.own.base hGm) _, fun j h1 h2 => ?_, fun y hy => ?_, by rw [World.size_setCell]; exact Nat.le_trans h.size hb.size⟩
  · rw [Below.heap_setCell _ _ _ j (by show j ≠ G; have : (⟨G, ns.flatMap G2.cells, 36⟩ : Blk).at_ = G := rfl; omega)]
    exact (hb.block j (Nat.lt_of_lt_of_le h2 h.size)).trans (h.mid j h1 h2)
  · rw [← e1] at hy
    rcases List.mem_or_eq_of_mem_set hy with hy | rfl
    · rcases List.mem_or_eq_of_mem_set hy with hy | rfl
      · exact h.apart y hy
      · exact .inr (Nat.le_trans h.size h1)
    · exact hGa
/-- A cell of a list of structs is written. -/
theorem Uo.det (h : Uo B lo hi w0 ub c G D R S w ns ds rs bs) {q j : Nat} {d d' : Det} (hd : ds[q]? = some d) (hj : j < 7) (v : Value) (he : d'.cells = d.cells.set j v) : Uo B lo hi w0 ub c G D R S (w.setCell ⟨D, q * 7 + j, none⟩ v) ns (ds.set q d') rs bs :=
  h.cell_set (i := 2) (x := ⟨D, ds.flatMap Det.cells, 39⟩) rfl (q * 7 + j) v (by unfold UO.own; rw [← flat_set (n := 7) (fun _ => rfl) ds q j d d' v hd hj he]; rfl) h.ok
theorem Uo.rail (h : Uo B lo hi w0 ub c G D R S w ns ds rs bs) {q j : Nat} {d d' : Rl} (hd : rs[q]? = some d) (hj : j < 11) (v : Value) (he : d'.cells = d.cells.set j v) : Uo B lo hi w0 ub c G D R S (w.setCell ⟨R, q * 11 + j, none⟩ v) ns ds (rs.set q d') bs :=
  h.cell_set (i := 3) (x := ⟨R, rs.flatMap Rl.cells, 41⟩) rfl (q * 11 + j) v (by unfold UO.own; rw [← flat_set (n := 11) (fun _ => rfl) rs q j d d' v hd hj he]; rfl) h.ok
theorem Uo.bus (h : Uo B lo hi w0 ub c G D R S w ns ds rs bs) {q j : Nat} {d d' : Bs} (hd : bs[q]? = some d) (hj : j < 2) (v : Value) (he : d'.cells = d.cells.set j v) : Uo B lo hi w0 ub c G D R S (w.setCell ⟨S, q * 2 + j, none⟩ v) ns ds rs (bs.set q d') :=
  h.cell_set (i := 4) (x := ⟨S, bs.flatMap Bs.cells, 43⟩) rfl (q * 2 + j) v (by unfold UO.own; rw [← flat_set (n := 2) (fun _ => rfl) bs q j d d' v hd hj he]; rfl) h.ok
theorem Uo.detc (h : Uo B lo hi w0 ub c G D R S w ns ds rs bs) {q j : Nat} {d : Det} (hd : ds[q]? = some d) (hj : j < 7) : w.cell? ⟨D, q * 7 + j, none⟩ = d.cells[j]? ∧ w.frozen? ⟨D, q * 7 + j, none⟩ = false := by
  have hm : (⟨D, ds.flatMap Det.cells, 39⟩ : Blk) ∈ UO.own ub c ns G D R S ds rs bs := List.mem_of_getElem? (i := 2) rfl
  exact ⟨(h.own.cell hm _).trans (flat_get (n := 7) (fun _ => rfl) ds q j d hd hj), h.own.frozen hm _⟩
theorem Uo.railc (h : Uo B lo hi w0 ub c G D R S w ns ds rs bs) {q j : Nat} {d : Rl} (hd : rs[q]? = some d) (hj : j < 11) : w.cell? ⟨R, q * 11 + j, none⟩ = d.cells[j]? ∧ w.frozen? ⟨R, q * 11 + j, none⟩ = false := by
  have hm : (⟨R, rs.flatMap Rl.cells, 41⟩ : Blk) ∈ UO.own ub c ns G D R S ds rs bs := List.mem_of_getElem? (i := 3) rfl
  exact ⟨(h.own.cell hm _).trans (flat_get (n := 11) (fun _ => rfl) rs q j d hd hj), h.own.frozen hm _⟩
theorem Uo.busc (h : Uo B lo hi w0 ub c G D R S w ns ds rs bs) {q j : Nat} {d : Bs} (hd : bs[q]? = some d) (hj : j < 2) : w.cell? ⟨S, q * 2 + j, none⟩ = d.cells[j]? ∧ w.frozen? ⟨S, q * 2 + j, none⟩ = false := by
  have hm : (⟨S, bs.flatMap Bs.cells, 43⟩ : Blk) ∈ UO.own ub c ns G D R S ds rs bs := List.mem_of_getElem? (i := 4) rfl
  exact ⟨(h.own.cell hm _).trans (flat_get (n := 2) (fun _ => rfl) bs q j d hd hj), h.own.frozen hm _⟩
/-- What it is as a table. -/
theorem Uo.tab (h : Uo B lo hi w0 ub c G D R S w ns ds rs bs) {T : Tab} (h1 : T.phases.length = 8) (h2 : T.conflict.length = 8) (h3 : T.flash.length = 8) (sm : Small T) (l0 : ns.length = T.groups.length) (l1 : ds.length = T.dets.length) (l2 : rs.length = T.rails.length) (l3 : bs.length = T.buses.length) :
    IsTab w (hd T G D R S) { T with groups := ns.map (fun n => (n.x.r, n.y.r)), dets := ds, rails := rs, buses := bs } := by
  have hm : (1000 : Nat) ≤ maxLen := by decide
  have hG : (⟨G, ns.flatMap G2.cells, 36⟩ : Blk) ∈ UO.own ub c ns G D R S ds rs bs := List.mem_of_getElem? (i := 1) rfl
  have hD : (⟨D, ds.flatMap Det.cells, 39⟩ : Blk) ∈ UO.own ub c ns G D R S ds rs bs := List.mem_of_getElem? (i := 2) rfl
  have hR : (⟨R, rs.flatMap Rl.cells, 41⟩ : Blk) ∈ UO.own ub c ns G D R S ds rs bs := List.mem_of_getElem? (i := 3) rfl
  have hS : (⟨S, bs.flatMap Bs.cells, 43⟩ : Blk) ∈ UO.own ub c ns G D R S ds rs bs := List.mem_of_getElem? (i := 4) rfl
  refine ⟨h1, h2, h3, ⟨ns.map G2.gr, by rw [List.map_map]; rfl, ?_, ?_⟩, ?_, ?_, ?_⟩
  · have e : ns.flatMap G2.cells = (ns.map G2.gr).flatMap Gr.cells := by rw [List.flatMap_map]; rfl
    have := row_of_block (n := 2) (enc := Gr.cells) (fun _ => rfl) (ns.map G2.gr) (by have := h.own.get hG; rwa [e] at this) (by rw [List.length_map, l0]; exact Nat.le_trans sm.groups hm)
    rwa [List.length_map, l0] at this
  · intro g hg
    obtain ⟨n, hn, rfl⟩ := List.mem_map.1 hg
    have hb : ∀ k, k < 2 → w.heap[(n.row k).b]? = some (.cells (n.row k).cur.toArray 3 (0, 0)) := fun k hk => by
      obtain ⟨g, hg⟩ := List.mem_iff_getElem?.1 hn
      exact h.own.get (x := (n.row k).blk) (List.mem_of_getElem? (get_row hg hk))
    exact ⟨row_cur (h.ok n hn).1 (hb 0 (by decide)), row_cur (h.ok n hn).2 (hb 1 (by decide))⟩
  · have := row_of_block (n := 7) (enc := Det.cells) (fun _ => rfl) ds (h.own.get hD) (by rw [l1]; exact Nat.le_trans sm.dets hm); rwa [l1] at this
  · have := row_of_block (n := 11) (enc := Rl.cells) (fun _ => rfl) rs (h.own.get hR) (by rw [l2]; exact Nat.le_trans sm.rails hm); rwa [l2] at this
  · have := row_of_block (n := 2) (enc := Bs.cells) (fun _ => rfl) bs (h.own.get hS) (by rw [l3]; exact Nat.le_trans sm.buses hm); rwa [l3] at this
end
end UO
namespace UO
open Go.ChangeShapes Go.WideShapes Go.ChangeAt Go.RowKit
open Tab Copy Owned Clone
open GenT (Own3)
open GenG (add_block)
open ClR (GrL)
theorem flat_I (l : List Int) : l.flatMap (fun n => [I n]) = l.map I := GrP.flat_I l
def ng2 (n : NG) : G2 := ⟨⟨n.r0, n.b0, n.r0.map I⟩, ⟨n.r1, n.b1, n.r1.map I⟩⟩
theorem ng2_cells (n : NG) : (ng2 n).cells = n.gr.cells := by
  simp [ng2, G2.cells, G2.gr, NG.gr, Gr.cells, Rw.sl]
theorem ng2_blks (n : NG) : (ng2 n).blks = n.blks := by
  simp [ng2, G2.blks, NG.blks, Rw.blk, flat_I]
theorem own_eq (ub : Nat) (c : List Value) (T : Tab) (ns : List NG) (G D R S : Nat) : UO.own ub c (ns.map ng2) G D R S T.dets T.rails T.buses = ⟨ub, c, 32⟩ :: Clone.own T ns G D R S := by
  unfold UO.own Clone.own
  rw [List.flatMap_map, List.flatMap_map, List.flatMap_map]
  congr 2
  · congr 1
    exact congrArg (fun f => List.flatMap f ns) (funext ng2_cells)
  · congr 4
    exact funext ng2_blks
/-- The clone, in its box, before the first write; w1: a later world, from lo on new. -/
theorem start {B : Nat} {w w1 : World} {ub : Nat} {c : List Value} {T : Tab} {ns : List NG} {G D R S : Nat} (sm : Small T) (hnd : ns.map (fun g => (g.r0, g.r1)) = T.groups) (h : Owned.Own B w (⟨ub, c, 32⟩ :: Clone.own T ns G D R S)) (hb : Below w.heap.size w w1) :
    Uo B w.heap.size w1.heap.size w1 ub c G D R S w1 (ns.map ng2) T.dets T.rails T.buses := by
  have hm : (1000 : Nat) ≤ maxLen := by decide
  refine ⟨by rw [own_eq]; exact h.step hb, fun n hn => ?_, Below.refl _ _, fun _ _ _ => rfl, fun x hx => ?_, Nat.le_refl _⟩
  · obtain ⟨m, hm', rfl⟩ := List.mem_map.1 hn
    have hs := sm.rows (m.r0, m.r1) (by rw [← hnd]; exact List.mem_map.2 ⟨m, hm', rfl⟩)
    have ok : ∀ (r : List Int) (b : Nat), r.length ≤ 1000 → Rw.Ok ⟨r, b, r.map I⟩ := fun r b hr => ⟨by rw [List.take_of_length_le (by simp)], by simp, by rw [List.length_map]; exact Nat.le_trans hr hm⟩
    exact ⟨ok _ _ hs.1, ok _ _ hs.2⟩
  · rw [own_eq] at hx
    exact .inl (h.lt hx)
theorem move_row {α : Type} {n : Nat} {enc : α → List Value} {w w' : World} {s : Sl} {l : List α} (h : RowOf n enc w s l) (hs : ∀ x, s.a = some x → w'.heap[x.block]? = w.heap[x.block]?) : RowOf n enc w' s l := by
  rcases h with h | ⟨x, h1, h2, h3, h4⟩
  · exact .inl h
  · refine .inr ⟨x, h1, h2, h3, fun i v hv j u hu => ?_⟩
    have := h4 i v hv j u hu
    rw [← this]
    have e : ((x.add (i * n)).add j).block = x.block := by rw [add_block, add_block]
    simp only [World.cell?, e, hs x h1]
theorem own_at {α : Type} {enc : α → List Value} {n B : Nat} {w : World} {t : TypeId} {s : Sl} {l : List α} (h : Gath.Owns enc n B w t (s.val l.length) l) : ∀ x, s.a = some x → B ≤ x.block ∧ x.block < w.heap.size := by
  intro x hx
  rcases h.2 with ⟨e, _⟩ | ⟨g, cap, cur, e, h1, h2, _⟩
  · simp [Sl.val, hx] at e
  · simp [Sl.val, hx] at e
    obtain ⟨rfl, _⟩ := e
    exact ⟨h1, (Array.getElem?_eq_some_iff.1 h2).1⟩
/-- Where nothing has been written, a table reads as it did. -/
theorem was_tab {lo : Nat} {w w' : World} {hd : Hd} {T : Tab} (h : IsTab w hd T) (o : Own3 lo w hd T) (g : GrL lo w hd.g T.groups) (hk : ∀ j, lo ≤ j → j < w.heap.size → w'.heap[j]? = w.heap[j]?) : IsTab w' hd T := by
  obtain ⟨gs, h1, h2, h3, h4, h5⟩ := g
  have hlt : ∀ (x : Addr) (cs : Array Value) (t : TypeId), w.heap[x.block]? = some (.cells cs t (0, 0)) → x.block < w.heap.size := fun x cs t h => (Array.getElem?_eq_some_iff.1 h).1
  refine ⟨h.ph, h.cf, h.fl, ⟨gs, h1, move_row h2 (fun x hx => ?_), fun m hm => ⟨move_row (h4 m hm).1.1 (fun x hx => ?_), move_row (h4 m hm).2.1 (fun x hx => ?_)⟩⟩, move_row h.dets (fun x hx => ?_), move_row h.rails (fun x hx => ?_), move_row h.buses (fun x hx => ?_)⟩
  · obtain ⟨b, rfl, hb⟩ := o.gbk x hx
    obtain ⟨cs, hc⟩ := h3 _ hx
    exact hk _ hb (hlt _ _ _ hc)
  · obtain ⟨cs, hc⟩ := (h4 m hm).1.2 x hx
    exact hk _ ((h5 m hm).1 x hx) (hlt _ _ _ hc)
  · obtain ⟨cs, hc⟩ := (h4 m hm).2.2 x hx
    exact hk _ ((h5 m hm).2 x hx) (hlt _ _ _ hc)
  · exact hk _ (own_at o.dets x hx).1 (own_at o.dets x hx).2
  · exact hk _ (own_at o.rails x hx).1 (own_at o.rails x hx).2
  · exact hk _ (own_at o.buses x hx).1 (own_at o.buses x hx).2
/-- The shape while the groups are written: group g is the next. -/
structure Sh (T : Tab) (g : Nat) (ns : List G2) : Prop where
  len : ns.length = T.groups.length
  row : ∀ (j : Nat) (n : G2), ns[j]? = some n → n.x.r.length = (T.groups.getD j ([], [])).1.length + (if j < g then 1 else 0) ∧ (g ≤ j → n.x.cur.length = n.x.r.length) ∧ n.y.r.length ≤ 1000
theorem Sh.start {T : Tab} {ns : List NG} (sm : Small T) (hnd : ns.map (fun g => (g.r0, g.r1)) = T.groups) : Sh T 0 (ns.map ng2) := by
  refine ⟨by rw [List.length_map, ← hnd, List.length_map], fun j n hn => ?_⟩
  rw [List.getElem?_map] at hn
  obtain ⟨m, hm, rfl⟩ := Option.map_eq_some_iff.1 hn
  have hs := sm.rows (m.r0, m.r1) (by rw [← hnd]; exact List.mem_map.2 ⟨m, List.mem_of_getElem? hm, rfl⟩)
  refine ⟨?_, fun _ => by simp [ng2], hs.2⟩
  rw [if_neg (by omega), ← hnd, List.getD_eq_getElem?_getD, List.getElem?_map, hm]
  rfl
theorem Sh.inc {T : Tab} {g j k i : Nat} {ns : List G2} {n : G2} (h : Sh T g ns) (hn : ns[j]? = some n) (z : Int) : Sh T g (ns.set j (n.put k ((n.row k).upd i z))) := by
  refine ⟨by rw [List.length_set]; exact h.len, fun q m hm => ?_⟩
  rw [List.getElem?_set] at hm
  split at hm
  · rename_i e
    subst e
    split at hm
    · obtain rfl := Option.some.inj hm
      have := h.row j n hn
      unfold G2.put G2.row Rw.upd
      split <;> simpa using this
    · cases hm
  · exact h.row q m hm
theorem Sh.grow {T : Tab} {g : Nat} {ns : List G2} {n : G2} (h : Sh T g ns) (hn : ns[g]? = some n) {x' : Rw} {z : Int} (hx : x'.r = n.x.r ++ [z]) : Sh T (g + 1) (ns.set g (n.put 0 x')) := by
  refine ⟨by rw [List.length_set]; exact h.len, fun q m hm => ?_⟩
  rw [List.getElem?_set] at hm
  split at hm
  · rename_i e
    subst e
    split at hm
    · obtain rfl := Option.some.inj hm
      have := h.row g n hn
      refine ⟨?_, fun h => by omega, this.2.2⟩
      show x'.r.length = _
      rw [hx, List.length_append, this.1, if_neg (by omega), if_pos (by omega)]; rfl
    · cases hm
  · rename_i e
    have := h.row q m hm
    refine ⟨?_, fun h => this.2.1 (by omega), this.2.2⟩
    rw [this.1]
    congr 1
    by_cases h1 : q < g
    · rw [if_pos h1, if_pos (by omega)]
    · rw [if_neg h1, if_neg (by omega)]
/-- A table whose first row has grown is another one. -/
theorem Sh.other {T : Tab} {g : Nat} {ns : List G2} (h : Sh T g ns) (hg : 0 < g) (h0 : 0 < T.groups.length) (ds : List Det) (rs : List Rl) (bs : List Bs) : T ≠ { T with groups := ns.map (fun n => (n.x.r, n.y.r)), dets := ds, rails := rs, buses := bs } := by
  intro e
  have e1 : T.groups = ns.map (fun n => (n.x.r, n.y.r)) := congrArg Tab.groups e
  obtain ⟨n, hn⟩ : ∃ n, ns[0]? = some n := ⟨_, List.getElem?_eq_getElem (by rw [h.len]; exact h0)⟩
  have := (h.row 0 n hn).1
  rw [if_pos hg, List.getD_eq_getElem?_getD, e1, List.getElem?_map, hn] at this
  simp at this
end UO
namespace Same
open Go.ChangeShapes Go.WideShapes Go.ChangeAt Go.RowKit
open Tab Owned CodeAt
open May (ret_bool chain take_succ' infoP infoG infoD infoR infoB infoT row_new St)
/-- Two boxed tables that a walk holds on to. -/
structure Two (w : World) (cs ds : Array Value) (h k : Hd) (T U : Tab) (W : World) : Prop where
  t : St w w.heap.size cs h T W
  u : St w (w.heap.size + 1) ds k U W
theorem Two.step {w W W' : World} {cs ds : Array Value} {h k : Hd} {T U : Tab} (p : Two w cs ds h k T U W) (hb : Below W.heap.size W W') : Two w cs ds h k T U W' := ⟨p.t.step hb, p.u.step hb⟩
theorem data_step {l m : List Gr} {k : Nat} {v u : Gr} (h : l[k]? = some v) (h' : m[k]? = some u) (e : (l.take k).map Gr.data = (m.take k).map Gr.data) (hv : v.data = u.data) : (l.take (k + 1)).map Gr.data = (m.take (k + 1)).map Gr.data := by
  rw [take_succ' l k v h, take_succ' m k u h', List.map_append, List.map_append, e]; simp [hv]
theorem data_break {l m : List Gr} {k : Nat} {v u : Gr} (h : l[k]? = some v) (h' : m[k]? = some u) (hv : ¬ v.data = u.data) : ¬ l.map Gr.data = m.map Gr.data := fun e => hv (by
  have h3 := congrArg (·[k]?) e
  simp only [List.getElem?_map, h, h', Option.map_some] at h3
  exact Option.some.inj h3)
/-- What is compared ahead of the lists' elements. -/
structure Heads (T U : Tab) : Prop where
  h1 : T.phases = U.phases
  h2 : T.conflict = U.conflict
  h3 : T.flash = U.flash
  h4 : T.groups.length = U.groups.length
  h5 : T.dets.length = U.dets.length
  h6 : T.rails.length = U.rails.length
  h7 : T.buses.length = U.buses.length
theorem heads_rg {Q : Exit → Act → World → Prop} (T U : Tab) (h k : Hd) (w w1 : World) (cs ds : Array Value) (L1 : Hid (IsTab w h T)) (L2 : Hid (IsTab w k U)) (C : Hid (CellsOk T h cs)) (D : Hid (CellsOk U k ds)) (SS : Hid (Two w cs ds h k T U w1)) (f0 f1 f4 f5 f6 f7 f8 f9 f10 f11 f12 f13 f14 f15 f16 f17 f18 f19 f20 f21 f22 f23 f24 f25 f26 f27 f28 f29 f30 f31 f32 f33 f34 f35 f36 f37 f38 f39 f40 f41 f42 f43 f44 f45 f46 f47 f48 f49 f50 f51 f52 f53 f54 f55 f56 f57 f58 f59 f60 f61 f62 f63 f64 f65 f66 f67 f68 f69 f70 f71 f72 f73 f74 f75 f76 f77 f78 f79 f80 f81 f82 f83 f84 f85 f86 f87 f88 f89 f90 f91 f92 f93 f94 f95 f96 f97 f98 f99 f100 f101 f102 f103 f104 f105 f106 f107 f108 f109 f110 f111 f112 f113 f114 f115 f116 f117 f118 f119 f120 f121 f122 f123 f124 f125 f126 f127 f128 f129 f130 f131 f132 f133 f134 f135 f136 f137 f138 f139 f140 f141 f142 f143 f144 f145 f146 f147 f148 f149 f150 f151 f152 f153 f154 f155 f156 f157 f158 f159 f160 f161 f162 f163 f164 f165 f166 f167 f168 f169 f170 f171 f172 f173 f174 f175 f176 f177 f178 f179 f180 f181 f182 f183 f184 f185 f186 f187 f188 f189 f190 f191 f192 f193 f194 f195 f196 f197 f198 f199 f200 f201 f202 f203 f204 f205 f206 f207 f208 f209 f210 f211 f212 f213 f214 f215 f216 f217 f218 f219 f220 f221 f222 f223 f224 f225 f226 f227 f228 f229 f230 f231 f232 f233 f234 f235 f236 f237 f238 f239 f240 f241 f242 : Value)
    (HQ : Hid (∀ (x11 x12 x13 x14 x15 x16 x17 x18 x19 x20 x21 x22 x23 x24 x25 x26 x27 x28 x29 x30 x31 x32 x33 x34 x35 x36 x37 x38 x39 x40 x41 x42 x43 x44 x45 x46 x47 x48 x49 x50 x51 x52 x53 x54 x55 x56 x57 x58 x59 x60 x61 x62 x63 x64 : Value) (b : Bool), (b = false ↔ Heads T U) → Q .normal ⟨#[f0, f1, Value.pointer (some ⟨w.heap.size, 0, none⟩), Value.pointer (some ⟨w.heap.size + 1, 0, none⟩), f4, f5, f6, f7, f8, f9, f10, x11, x12, x13, x14, x15, x16, x17, x18, x19, x20, x21, x22, x23, x24, x25, x26, x27, x28, x29, x30, x31, x32, x33, x34, x35, x36, x37, x38, x39, x40, x41, x42, x43, x44, x45, x46, x47, x48, x49, x50, x51, x52, x53, x54, x55, x56, x57, x58, x59, x60, x61, x62, x63, x64, Value.bool b, f66, f67, f68, f69, f70, f71, f72, f73, f74, f75, f76, f77, f78, f79, f80, f81, f82, f83, f84, f85, f86, f87, f88, f89, f90, f91, f92, f93, f94, f95, f96, f97, f98, f99, f100, f101, f102, f103, f104, f105, f106, f107, f108, f109, f110, f111, f112, f113, f114, f115, f116, f117, f118, f119, f120, f121, f122, f123, f124, f125, f126, f127, f128, f129, f130, f131, f132, f133, f134, f135, f136, f137, f138, f139, f140, f141, f142, f143, f144, f145, f146, f147, f148, f149, f150, f151, f152, f153, f154, f155, f156, f157, f158, f159, f160, f161, f162, f163, f164, f165, f166, f167, f168, f169, f170, f171, f172, f173, f174, f175, f176, f177, f178, f179, f180, f181, f182, f183, f184, f185, f186, f187, f188, f189, f190, f191, f192, f193, f194, f195, f196, f197, f198, f199, f200, f201, f202, f203, f204, f205, f206, f207, f208, f209, f210, f211, f212, f213, f214, f215, f216, f217, f218, f219, f220, f221, f222, f223, f224, f225, f226, f227, f228, f229, f230, f231, f232, f233, f234, f235, f236, f237, f238, f239, f240, f241, f242], []⟩ w1)) :
    (rg 1 Try.f8).wp Try.prog Q ⟨#[f0, f1, Value.pointer (some ⟨w.heap.size, 0, none⟩), Value.pointer (some ⟨w.heap.size + 1, 0, none⟩), f4, f5, f6, f7, f8, f9, f10, f11, f12, f13, f14, f15, f16, f17, f18, f19, f20, f21, f22, f23, f24, f25, f26, f27, f28, f29, f30, f31, f32, f33, f34, f35, f36, f37, f38, f39, f40, f41, f42, f43, f44, f45, f46, f47, f48, f49, f50, f51, f52, f53, f54, f55, f56, f57, f58, f59, f60, f61, f62, f63, f64, f65, f66, f67, f68, f69, f70, f71, f72, f73, f74, f75, f76, f77, f78, f79, f80, f81, f82, f83, f84, f85, f86, f87, f88, f89, f90, f91, f92, f93, f94, f95, f96, f97, f98, f99, f100, f101, f102, f103, f104, f105, f106, f107, f108, f109, f110, f111, f112, f113, f114, f115, f116, f117, f118, f119, f120, f121, f122, f123, f124, f125, f126, f127, f128, f129, f130, f131, f132, f133, f134, f135, f136, f137, f138, f139, f140, f141, f142, f143, f144, f145, f146, f147, f148, f149, f150, f151, f152, f153, f154, f155, f156, f157, f158, f159, f160, f161, f162, f163, f164, f165, f166, f167, f168, f169, f170, f171, f172, f173, f174, f175, f176, f177, f178, f179, f180, f181, f182, f183, f184, f185, f186, f187, f188, f189, f190, f191, f192, f193, f194, f195, f196, f197, f198, f199, f200, f201, f202, f203, f204, f205, f206, f207, f208, f209, f210, f211, f212, f213, f214, f215, f216, f217, f218, f219, f220, f221, f222, f223, f224, f225, f226, f227, f228, f229, f230, f231, f232, f233, f234, f235, f236, f237, f238, f239, f240, f241, f242], []⟩ w1 := by
  conv => arg 2; whnf
  have E1 := Lib.hid (phases_eqs T.phases U.phases L1.out.ph L2.out.ph)
  have E3 := Lib.hid (eight_eqs T.conflict U.conflict L1.out.cf L2.out.cf)
  have E7 := Lib.hid (eight_eqs T.flash U.flash L1.out.fl L2.out.fl)
  have q104 := SS.out.t.cell C.out.g
  have q113 := SS.out.t.cell C.out.d
  have q114 := SS.out.t.cell C.out.r
  have q115 := SS.out.t.cell C.out.b
  have r104 := SS.out.u.cell D.out.g
  have r113 := SS.out.u.cell D.out.d
  have r114 := SS.out.u.cell D.out.r
  have r115 := SS.out.u.cell D.out.b
  have PA : Hid (Lies w1 ⟨w.heap.size, 0, none⟩ (T.phases.flatMap Ph.cells)) := Lib.hid (lies_at SS.out.t.blk 0 104 _ (by rw [List.drop_zero]; exact C.out.phases))
  have PB : Hid (Lies w1 ⟨w.heap.size + 1, 0, none⟩ (U.phases.flatMap Ph.cells)) := Lib.hid (lies_at SS.out.u.blk 0 104 _ (by rw [List.drop_zero]; exact D.out.phases))
  have IA : Hid ((Try.prog.info? 25).map (·.size) = some (T.phases.flatMap Ph.cells).length) := Lib.hid (infoPs.trans (by rw [phases_len, L1.out.ph]))
  have IB : Hid ((Try.prog.info? 25).map (·.size) = some (U.phases.flatMap Ph.cells).length) := Lib.hid (infoPs.trans (by rw [phases_len, L2.out.ph]))
  generalize T.phases.flatMap Ph.cells = pa at PA IA E1
  generalize U.phases.flatMap Ph.cells = pb at PB IB E1
  have CA : Hid (Lies w1 ⟨w.heap.size, 105, none⟩ (T.conflict.map I)) := Lib.hid (lies_at SS.out.t.blk 105 8 _ C.out.conflict)
  have CB : Hid (Lies w1 ⟨w.heap.size + 1, 105, none⟩ (U.conflict.map I)) := Lib.hid (lies_at SS.out.u.blk 105 8 _ D.out.conflict)
  have JA : Hid ((Try.prog.info? 27).map (·.size) = some (T.conflict.map I).length) := Lib.hid (by rw [List.length_map, L1.out.cf]; exact info8)
  have JB : Hid ((Try.prog.info? 27).map (·.size) = some (U.conflict.map I).length) := Lib.hid (by rw [List.length_map, L2.out.cf]; exact info8)
  generalize T.conflict.map I = ca at CA JA E3
  generalize U.conflict.map I = cb at CB JB E3
  have FA : Hid (Lies w1 ⟨w.heap.size, 121, none⟩ (T.flash.map I)) := Lib.hid (lies_at SS.out.t.blk 121 8 _ C.out.flash)
  have FB : Hid (Lies w1 ⟨w.heap.size + 1, 121, none⟩ (U.flash.map I)) := Lib.hid (lies_at SS.out.u.blk 121 8 _ D.out.flash)
  have KA : Hid ((Try.prog.info? 27).map (·.size) = some (T.flash.map I).length) := Lib.hid (by rw [List.length_map, L1.out.fl]; exact info8)
  have KB : Hid ((Try.prog.info? 27).map (·.size) = some (U.flash.map I).length) := Lib.hid (by rw [List.length_map, L2.out.fl]; exact info8)
  generalize T.flash.map I = fa at FA KA E7
  generalize U.flash.map I = fb at FB KB E7
  go_step
  by_cases h1 : T.phases = U.phases
  rotate_left
  · rw [decide_eq_false h1] at E1
    have NE : Hid (¬ Heads T U) := fun e => h1 e.h1
    clear h1
    refine wpList_plain rfl (fun K hK => ?_)
    go_simp
    refine hK _ _ ?_
    clear hK K
    (try dsimp only [Act.put]); (try simp only [List.setIfInBounds_toArray, List.set_cons_zero, List.set_cons_succ])
    refine Row.wpList_load_g 25 _ rfl (by rfl) ⟨w.heap.size, 0, none⟩ rfl pa _ PA.out Try.underlying25 rfl IA.out ?_
    (try dsimp only [Act.put]); (try simp only [List.setIfInBounds_toArray, List.set_cons_zero, List.set_cons_succ])
    refine wpList_plain rfl (fun K hK => ?_)
    go_simp
    refine hK _ _ ?_
    clear hK K
    (try dsimp only [Act.put]); (try simp only [List.setIfInBounds_toArray, List.set_cons_zero, List.set_cons_succ])
    refine Row.wpList_load_g 25 _ rfl (by rfl) ⟨w.heap.size + 1, 0, none⟩ rfl pb _ PB.out Try.underlying25 rfl IB.out ?_
    (try dsimp only [Act.put]); (try simp only [List.setIfInBounds_toArray, List.set_cons_zero, List.set_cons_succ])
    refine Row.wpList_neq 25 _ _ _ rfl (by rfl) pa.toArray pb.toArray rfl rfl guardP false E1.out ?_
    simp only [Bool.not_false, Bool.not_true]
    (try dsimp only [Act.put]); (try simp only [List.setIfInBounds_toArray, List.set_cons_zero, List.set_cons_succ])
    go_wp2
    exact HQ.out _ _ _ _ _ _ _ _ _ _ _ _ _ _ _ _ _ _ _ _ _ _ _ _ _ _ _ _ _ _ _ _ _ _ _ _ _ _ _ _ _ _ _ _ _ _ _ _ _ _ _ _ _ _ true (by simp only [Bool.true_eq_false, false_iff]; exact NE.out)
  rw [decide_eq_true h1] at E1
  have H1 := Lib.hid h1
  clear h1
  refine wpList_plain rfl (fun K hK => ?_)
  go_simp
  refine hK _ _ ?_
  clear hK K
  (try dsimp only [Act.put]); (try simp only [List.setIfInBounds_toArray, List.set_cons_zero, List.set_cons_succ])
  refine Row.wpList_load_g 25 _ rfl (by rfl) ⟨w.heap.size, 0, none⟩ rfl pa _ PA.out Try.underlying25 rfl IA.out ?_
  (try dsimp only [Act.put]); (try simp only [List.setIfInBounds_toArray, List.set_cons_zero, List.set_cons_succ])
  refine wpList_plain rfl (fun K hK => ?_)
  go_simp
  refine hK _ _ ?_
  clear hK K
  (try dsimp only [Act.put]); (try simp only [List.setIfInBounds_toArray, List.set_cons_zero, List.set_cons_succ])
  refine Row.wpList_load_g 25 _ rfl (by rfl) ⟨w.heap.size + 1, 0, none⟩ rfl pb _ PB.out Try.underlying25 rfl IB.out ?_
  (try dsimp only [Act.put]); (try simp only [List.setIfInBounds_toArray, List.set_cons_zero, List.set_cons_succ])
  refine Row.wpList_neq 25 _ _ _ rfl (by rfl) pa.toArray pb.toArray rfl rfl guardP true E1.out ?_
  simp only [Bool.not_false, Bool.not_true]
  (try dsimp only [Act.put]); (try simp only [List.setIfInBounds_toArray, List.set_cons_zero, List.set_cons_succ])
  clear PA PB IA IB E1
  refine wpList_plain rfl (fun K hK => ?_)
  go_simp
  refine hK _ _ ?_
  clear hK K
  (try dsimp only [Act.put]); (try simp only [List.setIfInBounds_toArray, List.set_cons_zero, List.set_cons_succ])
  by_cases h2 : T.conflict = U.conflict
  rotate_left
  · rw [decide_eq_false h2] at E3
    have NE : Hid (¬ Heads T U) := fun e => h2 e.h2
    clear h2
    refine BigFrame.wpList_want (by rfl) (fun K hK => ?_)
    go_simp
    refine hK _ _ ?_
    clear hK K
    (try dsimp only [Act.put]); (try simp only [List.setIfInBounds_toArray, List.set_cons_zero, List.set_cons_succ])
    refine Row.wpList_load_g 27 _ rfl (by rfl) ⟨w.heap.size, 105, none⟩ rfl ca _ CA.out Try.underlying27 rfl JA.out ?_
    (try dsimp only [Act.put]); (try simp only [List.setIfInBounds_toArray, List.set_cons_zero, List.set_cons_succ])
    refine BigFrame.wpList_want (by rfl) (fun K hK => ?_)
    go_simp
    refine hK _ _ ?_
    clear hK K
    (try dsimp only [Act.put]); (try simp only [List.setIfInBounds_toArray, List.set_cons_zero, List.set_cons_succ])
    refine Row.wpList_load_g 27 _ rfl (by rfl) ⟨w.heap.size + 1, 105, none⟩ rfl cb _ CB.out Try.underlying27 rfl JB.out ?_
    (try dsimp only [Act.put]); (try simp only [List.setIfInBounds_toArray, List.set_cons_zero, List.set_cons_succ])
    refine Row.wpList_neq 27 _ _ _ rfl (by rfl) ca.toArray cb.toArray rfl rfl guard8 false E3.out ?_
    simp only [Bool.not_false, Bool.not_true]
    (try dsimp only [Act.put]); (try simp only [List.setIfInBounds_toArray, List.set_cons_zero, List.set_cons_succ])
    go_wp2
    exact HQ.out _ _ _ _ _ _ _ _ _ _ _ _ _ _ _ _ _ _ _ _ _ _ _ _ _ _ _ _ _ _ _ _ _ _ _ _ _ _ _ _ _ _ _ _ _ _ _ _ _ _ _ _ _ _ true (by simp only [Bool.true_eq_false, false_iff]; exact NE.out)
  rw [decide_eq_true h2] at E3
  have H2 := Lib.hid h2
  clear h2
  refine BigFrame.wpList_want (by rfl) (fun K hK => ?_)
  go_simp
  refine hK _ _ ?_
  clear hK K
  (try dsimp only [Act.put]); (try simp only [List.setIfInBounds_toArray, List.set_cons_zero, List.set_cons_succ])
  refine Row.wpList_load_g 27 _ rfl (by rfl) ⟨w.heap.size, 105, none⟩ rfl ca _ CA.out Try.underlying27 rfl JA.out ?_
  (try dsimp only [Act.put]); (try simp only [List.setIfInBounds_toArray, List.set_cons_zero, List.set_cons_succ])
  refine BigFrame.wpList_want (by rfl) (fun K hK => ?_)
  go_simp
  refine hK _ _ ?_
  clear hK K
  (try dsimp only [Act.put]); (try simp only [List.setIfInBounds_toArray, List.set_cons_zero, List.set_cons_succ])
  refine Row.wpList_load_g 27 _ rfl (by rfl) ⟨w.heap.size + 1, 105, none⟩ rfl cb _ CB.out Try.underlying27 rfl JB.out ?_
  (try dsimp only [Act.put]); (try simp only [List.setIfInBounds_toArray, List.set_cons_zero, List.set_cons_succ])
  refine Row.wpList_neq 27 _ _ _ rfl (by rfl) ca.toArray cb.toArray rfl rfl guard8 true E3.out ?_
  simp only [Bool.not_false, Bool.not_true]
  (try dsimp only [Act.put]); (try simp only [List.setIfInBounds_toArray, List.set_cons_zero, List.set_cons_succ])
  clear CA CB JA JB E3
  refine wpList_plain rfl (fun K hK => ?_)
  go_simp
  refine hK _ _ ?_
  clear hK K
  (try dsimp only [Act.put]); (try simp only [List.setIfInBounds_toArray, List.set_cons_zero, List.set_cons_succ])
  refine wpList_plain rfl (fun K hK => ?_)
  go_simp
  refine hK _ _ ?_
  clear hK K
  (try dsimp only [Act.put]); (try simp only [List.setIfInBounds_toArray, List.set_cons_zero, List.set_cons_succ])
  by_cases h3 : T.flash = U.flash
  rotate_left
  · rw [decide_eq_false h3] at E7
    have NE : Hid (¬ Heads T U) := fun e => h3 e.h3
    clear h3
    refine BigFrame.wpList_want (by rfl) (fun K hK => ?_)
    go_simp
    refine hK _ _ ?_
    clear hK K
    (try dsimp only [Act.put]); (try simp only [List.setIfInBounds_toArray, List.set_cons_zero, List.set_cons_succ])
    refine Row.wpList_load_g 27 _ rfl (by rfl) ⟨w.heap.size, 121, none⟩ rfl fa _ FA.out Try.underlying27 rfl KA.out ?_
    (try dsimp only [Act.put]); (try simp only [List.setIfInBounds_toArray, List.set_cons_zero, List.set_cons_succ])
    refine BigFrame.wpList_want (by rfl) (fun K hK => ?_)
    go_simp
    refine hK _ _ ?_
    clear hK K
    (try dsimp only [Act.put]); (try simp only [List.setIfInBounds_toArray, List.set_cons_zero, List.set_cons_succ])
    refine Row.wpList_load_g 27 _ rfl (by rfl) ⟨w.heap.size + 1, 121, none⟩ rfl fb _ FB.out Try.underlying27 rfl KB.out ?_
    (try dsimp only [Act.put]); (try simp only [List.setIfInBounds_toArray, List.set_cons_zero, List.set_cons_succ])
    refine Row.wpList_neq 27 _ _ _ rfl (by rfl) fa.toArray fb.toArray rfl rfl guard8 false E7.out ?_
    simp only [Bool.not_false, Bool.not_true]
    (try dsimp only [Act.put]); (try simp only [List.setIfInBounds_toArray, List.set_cons_zero, List.set_cons_succ])
    go_wp2
    exact HQ.out _ _ _ _ _ _ _ _ _ _ _ _ _ _ _ _ _ _ _ _ _ _ _ _ _ _ _ _ _ _ _ _ _ _ _ _ _ _ _ _ _ _ _ _ _ _ _ _ _ _ _ _ _ _ true (by simp only [Bool.true_eq_false, false_iff]; exact NE.out)
  rw [decide_eq_true h3] at E7
  have H3 := Lib.hid h3
  clear h3
  refine BigFrame.wpList_want (by rfl) (fun K hK => ?_)
  go_simp
  refine hK _ _ ?_
  clear hK K
  (try dsimp only [Act.put]); (try simp only [List.setIfInBounds_toArray, List.set_cons_zero, List.set_cons_succ])
  refine Row.wpList_load_g 27 _ rfl (by rfl) ⟨w.heap.size, 121, none⟩ rfl fa _ FA.out Try.underlying27 rfl KA.out ?_
  (try dsimp only [Act.put]); (try simp only [List.setIfInBounds_toArray, List.set_cons_zero, List.set_cons_succ])
  refine BigFrame.wpList_want (by rfl) (fun K hK => ?_)
  go_simp
  refine hK _ _ ?_
  clear hK K
  (try dsimp only [Act.put]); (try simp only [List.setIfInBounds_toArray, List.set_cons_zero, List.set_cons_succ])
  refine Row.wpList_load_g 27 _ rfl (by rfl) ⟨w.heap.size + 1, 121, none⟩ rfl fb _ FB.out Try.underlying27 rfl KB.out ?_
  (try dsimp only [Act.put]); (try simp only [List.setIfInBounds_toArray, List.set_cons_zero, List.set_cons_succ])
  refine Row.wpList_neq 27 _ _ _ rfl (by rfl) fa.toArray fb.toArray rfl rfl guard8 true E7.out ?_
  simp only [Bool.not_false, Bool.not_true]
  (try dsimp only [Act.put]); (try simp only [List.setIfInBounds_toArray, List.set_cons_zero, List.set_cons_succ])
  clear FA FB KA KB E7
  refine wpList_plain rfl (fun K hK => ?_)
  go_simp
  refine hK _ _ ?_
  clear hK K
  (try dsimp only [Act.put]); (try simp only [List.setIfInBounds_toArray, List.set_cons_zero, List.set_cons_succ])
  refine wpList_plain rfl (fun K hK => ?_)
  go_simp
  refine hK _ _ ?_
  clear hK K
  (try dsimp only [Act.put]); (try simp only [List.setIfInBounds_toArray, List.set_cons_zero, List.set_cons_succ])
  clear C D L1 L2 SS
  by_cases h4 : T.groups.length = U.groups.length
  rotate_left
  · have NE : Hid (¬ Heads T U) := fun e => h4 (e.h4)
    have hn : ((T.groups.length : Int) != (U.groups.length : Int)) = true := by rw [bne_iff_ne]; omega
    clear h4
    go_wp2
    exact HQ.out _ _ _ _ _ _ _ _ _ _ _ _ _ _ _ _ _ _ _ _ _ _ _ _ _ _ _ _ _ _ _ _ _ _ _ _ _ _ _ _ _ _ _ _ _ _ _ _ _ _ _ _ _ _ true (by simp only [Bool.true_eq_false, false_iff]; exact NE.out)
  have hn : ((T.groups.length : Int) != (U.groups.length : Int)) = false := by rw [bne_eq_false_iff_eq]; omega
  have H4 := Lib.hid h4
  clear h4
  refine BigFrame.wpList_want (by rfl) (fun K hK => ?_)
  go_simp
  refine hK _ _ ?_
  clear hK K
  (try dsimp only [Act.put]); (try simp only [List.setIfInBounds_toArray, List.set_cons_zero, List.set_cons_succ])
  refine BigFrame.wpList_want (by rfl) (fun K hK => ?_)
  go_simp
  refine hK _ _ ?_
  clear hK K
  (try dsimp only [Act.put]); (try simp only [List.setIfInBounds_toArray, List.set_cons_zero, List.set_cons_succ])
  refine BigFrame.wpList_want (by rfl) (fun K hK => ?_)
  go_simp
  refine hK _ _ ?_
  clear hK K
  (try dsimp only [Act.put]); (try simp only [List.setIfInBounds_toArray, List.set_cons_zero, List.set_cons_succ])
  refine BigFrame.wpList_want (by rfl) (fun K hK => ?_)
  go_simp
  refine hK _ _ ?_
  clear hK K
  (try dsimp only [Act.put]); (try simp only [List.setIfInBounds_toArray, List.set_cons_zero, List.set_cons_succ])
  refine BigFrame.wpList_want (by rfl) (fun K hK => ?_)
  go_simp
  refine hK _ _ ?_
  clear hK K
  (try dsimp only [Act.put]); (try simp only [List.setIfInBounds_toArray, List.set_cons_zero, List.set_cons_succ])
  refine BigFrame.wpList_want (by rfl) (fun K hK => ?_)
  go_simp
  refine hK _ _ ?_
  clear hK K
  (try dsimp only [Act.put]); (try simp only [List.setIfInBounds_toArray, List.set_cons_zero, List.set_cons_succ])
  refine BigFrame.wpList_want (by rfl) (fun K hK => ?_)
  go_simp
  refine hK _ _ ?_
  clear hK K
  (try dsimp only [Act.put]); (try simp only [List.setIfInBounds_toArray, List.set_cons_zero, List.set_cons_succ])
  refine wpList_plain rfl (fun K hK => ?_)
  go_simp
  refine hK _ _ ?_
  clear hK K
  (try dsimp only [Act.put]); (try simp only [List.setIfInBounds_toArray, List.set_cons_zero, List.set_cons_succ])
  refine wpList_plain rfl (fun K hK => ?_)
  go_simp
  refine hK _ _ ?_
  clear hK K
  (try dsimp only [Act.put]); (try simp only [List.setIfInBounds_toArray, List.set_cons_zero, List.set_cons_succ])
  by_cases h5 : T.dets.length = U.dets.length
  rotate_left
  · have NE : Hid (¬ Heads T U) := fun e => h5 (by exact e.h5)
    have hn : ((T.dets.length : Int) != (U.dets.length : Int)) = true := by rw [bne_iff_ne]; omega
    clear h5
    go_wp2
    exact HQ.out _ _ _ _ _ _ _ _ _ _ _ _ _ _ _ _ _ _ _ _ _ _ _ _ _ _ _ _ _ _ _ _ _ _ _ _ _ _ _ _ _ _ _ _ _ _ _ _ _ _ _ _ _ _ true (by simp only [Bool.true_eq_false, false_iff]; exact NE.out)
  have hn : ((T.dets.length : Int) != (U.dets.length : Int)) = false := by rw [bne_eq_false_iff_eq]; omega
  have H5 := Lib.hid h5
  clear h5
  refine BigFrame.wpList_want (by rfl) (fun K hK => ?_)
  go_simp
  refine hK _ _ ?_
  clear hK K
  (try dsimp only [Act.put]); (try simp only [List.setIfInBounds_toArray, List.set_cons_zero, List.set_cons_succ])
  refine BigFrame.wpList_want (by rfl) (fun K hK => ?_)
  go_simp
  refine hK _ _ ?_
  clear hK K
  (try dsimp only [Act.put]); (try simp only [List.setIfInBounds_toArray, List.set_cons_zero, List.set_cons_succ])
  refine BigFrame.wpList_want (by rfl) (fun K hK => ?_)
  go_simp
  refine hK _ _ ?_
  clear hK K
  (try dsimp only [Act.put]); (try simp only [List.setIfInBounds_toArray, List.set_cons_zero, List.set_cons_succ])
  refine BigFrame.wpList_want (by rfl) (fun K hK => ?_)
  go_simp
  refine hK _ _ ?_
  clear hK K
  (try dsimp only [Act.put]); (try simp only [List.setIfInBounds_toArray, List.set_cons_zero, List.set_cons_succ])
  refine BigFrame.wpList_want (by rfl) (fun K hK => ?_)
  go_simp
  refine hK _ _ ?_
  clear hK K
  (try dsimp only [Act.put]); (try simp only [List.setIfInBounds_toArray, List.set_cons_zero, List.set_cons_succ])
  refine BigFrame.wpList_want (by rfl) (fun K hK => ?_)
  go_simp
  refine hK _ _ ?_
  clear hK K
  (try dsimp only [Act.put]); (try simp only [List.setIfInBounds_toArray, List.set_cons_zero, List.set_cons_succ])
  refine BigFrame.wpList_want (by rfl) (fun K hK => ?_)
  go_simp
  refine hK _ _ ?_
  clear hK K
  (try dsimp only [Act.put]); (try simp only [List.setIfInBounds_toArray, List.set_cons_zero, List.set_cons_succ])
  refine wpList_plain rfl (fun K hK => ?_)
  go_simp
  refine hK _ _ ?_
  clear hK K
  (try dsimp only [Act.put]); (try simp only [List.setIfInBounds_toArray, List.set_cons_zero, List.set_cons_succ])
  refine wpList_plain rfl (fun K hK => ?_)
  go_simp
  refine hK _ _ ?_
  clear hK K
  (try dsimp only [Act.put]); (try simp only [List.setIfInBounds_toArray, List.set_cons_zero, List.set_cons_succ])
  by_cases h6 : T.rails.length = U.rails.length
  rotate_left
  · have NE : Hid (¬ Heads T U) := fun e => h6 (by exact e.h6)
    have hn : ((T.rails.length : Int) != (U.rails.length : Int)) = true := by rw [bne_iff_ne]; omega
    clear h6
    go_wp2
    exact HQ.out _ _ _ _ _ _ _ _ _ _ _ _ _ _ _ _ _ _ _ _ _ _ _ _ _ _ _ _ _ _ _ _ _ _ _ _ _ _ _ _ _ _ _ _ _ _ _ _ _ _ _ _ _ _ true (by simp only [Bool.true_eq_false, false_iff]; exact NE.out)
  have hn : ((T.rails.length : Int) != (U.rails.length : Int)) = false := by rw [bne_eq_false_iff_eq]; omega
  have H6 := Lib.hid h6
  clear h6
  refine BigFrame.wpList_want (by rfl) (fun K hK => ?_)
  go_simp
  refine hK _ _ ?_
  clear hK K
  (try dsimp only [Act.put]); (try simp only [List.setIfInBounds_toArray, List.set_cons_zero, List.set_cons_succ])
  refine BigFrame.wpList_want (by rfl) (fun K hK => ?_)
  go_simp
  refine hK _ _ ?_
  clear hK K
  (try dsimp only [Act.put]); (try simp only [List.setIfInBounds_toArray, List.set_cons_zero, List.set_cons_succ])
  refine BigFrame.wpList_want (by rfl) (fun K hK => ?_)
  go_simp
  refine hK _ _ ?_
  clear hK K
  (try dsimp only [Act.put]); (try simp only [List.setIfInBounds_toArray, List.set_cons_zero, List.set_cons_succ])
  refine BigFrame.wpList_want (by rfl) (fun K hK => ?_)
  go_simp
  refine hK _ _ ?_
  clear hK K
  (try dsimp only [Act.put]); (try simp only [List.setIfInBounds_toArray, List.set_cons_zero, List.set_cons_succ])
  refine BigFrame.wpList_want (by rfl) (fun K hK => ?_)
  go_simp
  refine hK _ _ ?_
  clear hK K
  (try dsimp only [Act.put]); (try simp only [List.setIfInBounds_toArray, List.set_cons_zero, List.set_cons_succ])
  refine BigFrame.wpList_want (by rfl) (fun K hK => ?_)
  go_simp
  refine hK _ _ ?_
  clear hK K
  (try dsimp only [Act.put]); (try simp only [List.setIfInBounds_toArray, List.set_cons_zero, List.set_cons_succ])
  refine BigFrame.wpList_want (by rfl) (fun K hK => ?_)
  go_simp
  refine hK _ _ ?_
  clear hK K
  (try dsimp only [Act.put]); (try simp only [List.setIfInBounds_toArray, List.set_cons_zero, List.set_cons_succ])
  refine wpList_plain rfl (fun K hK => ?_)
  go_simp
  refine hK _ _ ?_
  clear hK K
  (try dsimp only [Act.put]); (try simp only [List.setIfInBounds_toArray, List.set_cons_zero, List.set_cons_succ])
  refine wpList_plain rfl (fun K hK => ?_)
  go_simp
  refine hK _ _ ?_
  clear hK K
  (try dsimp only [Act.put]); (try simp only [List.setIfInBounds_toArray, List.set_cons_zero, List.set_cons_succ])
  by_cases h7 : T.buses.length = U.buses.length
  rotate_left
  · have NE : Hid (¬ Heads T U) := fun e => h7 (by exact e.h7)
    have hn : ((T.buses.length : Int) != (U.buses.length : Int)) = true := by rw [bne_iff_ne]; omega
    clear h7
    go_wp2
    exact HQ.out _ _ _ _ _ _ _ _ _ _ _ _ _ _ _ _ _ _ _ _ _ _ _ _ _ _ _ _ _ _ _ _ _ _ _ _ _ _ _ _ _ _ _ _ _ _ _ _ _ _ _ _ _ _ true (by simp only [Bool.true_eq_false, false_iff]; exact NE.out)
  have hn : ((T.buses.length : Int) != (U.buses.length : Int)) = false := by rw [bne_eq_false_iff_eq]; omega
  have H7 := Lib.hid h7
  clear h7
  go_wp2
  exact HQ.out _ _ _ _ _ _ _ _ _ _ _ _ _ _ _ _ _ _ _ _ _ _ _ _ _ _ _ _ _ _ _ _ _ _ _ _ _ _ _ _ _ _ _ _ _ _ _ _ _ _ _ _ _ _ false (by simp only [true_iff]; exact ⟨H1.out, H2.out, H3.out, H4.out, H5.out, H6.out, H7.out⟩)
end Same
end Go.Proofs.Ytambpohphbdhcaa
