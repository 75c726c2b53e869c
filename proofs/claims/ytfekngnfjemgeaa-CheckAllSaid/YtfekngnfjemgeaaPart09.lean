/- 4 texts in one file, in build order. -/
import Derived.Test.YtfekngnfjemgeaaRows
import Derived.Test.YtfekngnfjemgeaaPart04
import Derived.Test.YtfekngnfjemgeaaPart03
import Derived.Test.YtfekngnfjemgeaaPart08
import Derived.Test.YtfekngnfjemgeaaPart07
import Derived.Test.YtfekngnfjemgeaaPart05
import Derived.Deep.Cut
import Derived.Deep.CutRange
set_option linter.unusedVariables false
set_option linter.unusedSimpArgs false
set_option linter.unusedSectionVars false
/- The contract of table.Same, at any two tables: they are one, or not. -/
namespace Go.Proofs.Ytfekngnfjemgeaa.Same
open Go.ChangeShapes Go.WideShapes Go.ChangeAt Go.RowKit
open Tab
open May (ret_bool chain take_succ' infoP infoG infoD infoR infoB infoT row_new St)
set_option linter.unusedVariables false
set_option linter.unusedSimpArgs false
theorem infoPs : (Try.prog.info? 25).map (·.size) = some 104 := by kernel_rfl
theorem info8 : (Try.prog.info? 27).map (·.size) = some 8 := by kernel_rfl
/-- Two tables, part by part, in the program's order. -/
theorem tab_eq {T U : Tab} (h1 : T.phases = U.phases) (h2 : T.groups = U.groups) (h3 : T.conflict = U.conflict) (h4 : T.dets = U.dets) (h5 : T.rails = U.rails) (h6 : T.buses = U.buses) (h7 : T.flash = U.flash) (h8 : single T = single U) : T = U := by
  obtain ⟨a0, a1, a2, a3, a4, a5, a6, a7, a8, a9, a10, a11, a12, a13⟩ := T
  obtain ⟨b0, b1, b2, b3, b4, b5, b6, b7, b8, b9, b10, b11, b12, b13⟩ := U
  simp only [single, List.cons.injEq, and_true] at h8
  simp_all
theorem lies_at {w : World} {b : Nat} {C : Array Value} {t : TypeId} {fr : Nat × Nat} (hb : w.heap[b]? = some (.cells C t fr)) (o n : Nat) (cs : List Value) (h : (C.toList.drop o).take n = cs) : Lies w ⟨b, o, none⟩ cs := fun j v hv => by
  rw [Addr.add_mid]; exact range_of hb o n cs h j v hv
set_option maxRecDepth 10000 in
set_option maxHeartbeats 8000000 in
theorem same_any (T U : Tab) (h k : Hd) (w : World) (ht : IsTab w h T) (hu : IsTab w k U) :
    Calls Try.prog 8 #[.agg (T.cells h).toArray, .agg (U.cells k).toArray] w fun e w' => e = .returned (.bool (decide (T = U))) ∧ Below w.heap.size w w' := by
  have C := Lib.hid (cells_ok ht)
  have D := Lib.hid (cells_ok hu)
  have C8 : Hid (∀ W, IsTab W h T → Calls Try.prog 37 #[.agg (T.cells h).toArray] W fun e w' => e = .returned (.agg ((single T).map I).toArray) ∧ Below W.heap.size W w') := fun W hW => single_any T h W hW
  have D8 : Hid (∀ W, IsTab W k U → Calls Try.prog 37 #[.agg (U.cells k).toArray] W fun e w' => e = .returned (.agg ((single U).map I).toArray) ∧ Below W.heap.size W w') := fun W hW => single_any U k W hW
  generalize (T.cells h).toArray = cs at C C8 ⊢
  generalize (U.cells k).toArray = ds at D D8 ⊢
  obtain ⟨gs, hgd, hgr⟩ := ht.groups
  obtain ⟨us, hud, hur⟩ := hu.groups
  have hgl : T.groups.length = gs.length := by rw [← hgd, List.length_map]
  have hul : U.groups.length = us.length := by rw [← hud, List.length_map]
  have b1w : Below w.heap.size w ((w.alloc (.cells cs 32)).alloc (.cells ds 32)) := ((Below.refl _ _).alloc (Nat.le_refl _) _).alloc (by simp) _
  have S1 : Hid (St w w.heap.size cs h T ((w.alloc (.cells cs 32)).alloc (.cells ds 32))) := ⟨b1w, heap_alloc2_old w _ _, ht.below b1w, Nat.le_refl _⟩
  have S2 : Hid (St w (w.heap.size + 1) ds k U ((w.alloc (.cells cs 32)).alloc (.cells ds 32))) := ⟨b1w, heap_alloc2_new w _ _, hu.below b1w, by omega⟩
  have G1 := Lib.hid (hgr.below b1w)
  have G2 := Lib.hid (hur.below b1w)
  have E1 := Lib.hid (phases_eqs T.phases U.phases ht.ph hu.ph)
  have E3 := Lib.hid (eight_eqs T.conflict U.conflict ht.cf hu.cf)
  have E7 := Lib.hid (eight_eqs T.flash U.flash ht.fl hu.fl)
  have E8 := Lib.hid (seven_eqs T U)
  have L1 := Lib.hid ht
  have L2 := Lib.hid hu
  have hsz := C.out.size
  have hsd := D.out.size
  clear ht hu hgr hur b1w
  go_enter Try.func8, Try.ntmps8
  go_wp2_with fail
  generalize (w.alloc (.cells cs 32)).alloc (.cells ds 32) = w1 at S1 S2 G1 G2 ⊢
  clear hsz hsd
  have hne : Nonempty (Ph.S (Row.Old w1)) := ⟨⟨0, w1, Below.refl _ _⟩⟩
  have q104 := fun p : Ph.S (Row.Old w1) => (S1.out.step p.is).cell C.out.g
  have q113 := fun p : Ph.S (Row.Old w1) => (S1.out.step p.is).cell C.out.d
  have q114 := fun p : Ph.S (Row.Old w1) => (S1.out.step p.is).cell C.out.r
  have q115 := fun p : Ph.S (Row.Old w1) => (S1.out.step p.is).cell C.out.b
  have r104 := fun p : Ph.S (Row.Old w1) => (S2.out.step p.is).cell D.out.g
  have r113 := fun p : Ph.S (Row.Old w1) => (S2.out.step p.is).cell D.out.d
  have r114 := fun p : Ph.S (Row.Old w1) => (S2.out.step p.is).cell D.out.r
  have r115 := fun p : Ph.S (Row.Old w1) => (S2.out.step p.is).cell D.out.b
  rw [hgl] at q104
  rw [hul] at r104
  clear hgl hul
  have GD : Hid (gs.map Gr.data = us.map Gr.data ↔ T.groups = U.groups) := by rw [hgd, hud]; exact Iff.rfl
  have F2 : Hid (∀ p : Ph.S (Row.Old w1), Calls Try.prog 29 #[.slice h.g.a gs.length h.g.cap, .slice k.g.a us.length k.g.cap, .func (.func 30) #[] #[]] p.world fun e w' => e = .returned (.bool (decide (gs.map Gr.data = us.map Gr.data))) ∧ Below p.world.heap.size p.world w') :=
    fun p => groups_any h.g.a k.g.a h.g.cap k.g.cap gs us _ (G1.out.1.below p.is) (G2.out.1.below p.is) (fun v hv => (G1.out.2 v hv).below p.is) (fun v hv => (G2.out.2 v hv).below p.is)
  have F4 := Lib.hid (fun p : Ph.S (Row.Old w1) => dets_any h.d.a k.d.a h.d.cap k.d.cap T.dets U.dets _ (S1.out.tab.dets.below p.is) (S2.out.tab.dets.below p.is))
  have F5 := Lib.hid (fun p : Ph.S (Row.Old w1) => rails_any h.r.a k.r.a h.r.cap k.r.cap T.rails U.rails _ (S1.out.tab.rails.below p.is) (S2.out.tab.rails.below p.is))
  have F6 := Lib.hid (fun p : Ph.S (Row.Old w1) => buses_any h.b.a k.b.a h.b.cap k.b.cap T.buses U.buses _ (S1.out.tab.buses.below p.is) (S2.out.tab.buses.below p.is))
  have F81 := Lib.hid (fun p : Ph.S (Row.Old w1) => C8.out _ (S1.out.tab.below p.is))
  have F82 := Lib.hid (fun p : Ph.S (Row.Old w1) => D8.out _ (S2.out.tab.below p.is))
  clear hgd hud G1 G2 C8 D8
  generalize hv1 : decide (T.phases = U.phases) = b1 at E1
  have V1 := Lib.hid hv1
  clear hv1
  generalize hv2 : decide (gs.map Gr.data = us.map Gr.data) = b2 at F2
  have V2 := Lib.hid hv2
  clear hv2
  generalize hv3 : decide (T.conflict = U.conflict) = b3 at E3
  have V3 := Lib.hid hv3
  clear hv3
  generalize hv4 : decide (T.dets = U.dets) = b4 at F4
  have V4 := Lib.hid hv4
  clear hv4
  generalize hv5 : decide (T.rails = U.rails) = b5 at F5
  have V5 := Lib.hid hv5
  clear hv5
  generalize hv6 : decide (T.buses = U.buses) = b6 at F6
  have V6 := Lib.hid hv6
  clear hv6
  generalize hv7 : decide (T.flash = U.flash) = b7 at E7
  have V7 := Lib.hid hv7
  clear hv7
  generalize hv8 : decide (single T = single U) = b8 at E8
  have V8 := Lib.hid hv8
  clear hv8
  refine Ph.wp_region_ph (Row.Old w1) [] (by kernel_rfl) (by kernel_rfl) (Row.Old.drew _) ?_
  (refine Ph.wpPh_calm rfl (fun K hK => ?_)
   go_simp
   refine hK _ ?_
   clear hK K)
  refine Row.wpPh_load rfl rfl 25 _ rfl ⟨w.heap.size, 0, none⟩ rfl (T.phases.flatMap Ph.cells) _ (fun p => lies_at (S1.out.step p.is).blk 0 104 _ (by rw [List.drop_zero]; exact C.out.phases)) Try.underlying25 rfl (by rw [phases_len, L1.out.ph]; exact infoPs) ?_
  (refine Ph.wpPh_calm rfl (fun K hK => ?_)
   go_simp
   refine hK _ ?_
   clear hK K)
  refine Row.wpPh_load rfl rfl 25 _ rfl ⟨w.heap.size + 1, 0, none⟩ rfl (U.phases.flatMap Ph.cells) _ (fun p => lies_at (S2.out.step p.is).blk 0 104 _ (by rw [List.drop_zero]; exact D.out.phases)) Try.underlying25 rfl (by rw [phases_len, L2.out.ph]; exact infoPs) ?_
  refine Row.wpPh_eql 25 _ _ _ rfl rfl rfl (T.phases.flatMap Ph.cells).toArray (U.phases.flatMap Ph.cells).toArray rfl rfl guardP b1 E1.out ?_
  cases b1
  · repeat
      (refine Ph.wpPh_calm rfl (fun K hK => ?_)
       go_simp
       refine hK _ ?_
       clear hK K)
    refine Ph.wpPh_nil ?_
    intro w2 hb2
    have B2 : Hid (Below w.heap.size w w2) := Below.trans S1.out.bel (Below.mono hb2 S1.out.bel.size)
    clear hb2 hne q104 q113 q114 q115 r104 r113 r114 r115
    go_wp2
    go_ret
    exact ⟨ret_bool (decide_eq_false (fun q => of_decide_eq_false V1.out (by rw [q]))).symm, B2.out⟩
  iterate 5
    (refine Ph.wpPh_calm rfl (fun K hK => ?_)
     go_simp
     refine hK _ ?_
     clear hK K)
  (refine Ph.wpPh_calm rfl (fun K hK => ?_)
   go_simp
   refine ⟨_, fun p => Row.Old.call (F2.out p), hK _ ?_⟩
   clear hK K)
  cases b2
  · repeat
      (refine Ph.wpPh_calm rfl (fun K hK => ?_)
       go_simp
       refine hK _ ?_
       clear hK K)
    refine Ph.wpPh_nil ?_
    intro w2 hb2
    have B2 : Hid (Below w.heap.size w w2) := Below.trans S1.out.bel (Below.mono hb2 S1.out.bel.size)
    clear hb2 hne q104 q113 q114 q115 r104 r113 r114 r115
    go_wp2
    go_ret
    exact ⟨ret_bool (decide_eq_false (fun q => of_decide_eq_false V2.out (GD.out.2 (by rw [q])))).symm, B2.out⟩
  iterate 3
    (refine Ph.wpPh_calm rfl (fun K hK => ?_)
     go_simp
     refine hK _ ?_
     clear hK K)
  refine Row.wpPh_load rfl rfl 27 _ rfl ⟨w.heap.size, 105, none⟩ rfl (T.conflict.map I) _ (fun p => lies_at (S1.out.step p.is).blk 105 8 _ C.out.conflict) Try.underlying27 rfl (by rw [List.length_map, L1.out.cf]; exact info8) ?_
  (refine Ph.wpPh_calm rfl (fun K hK => ?_)
   go_simp
   refine hK _ ?_
   clear hK K)
  refine Row.wpPh_load rfl rfl 27 _ rfl ⟨w.heap.size + 1, 105, none⟩ rfl (U.conflict.map I) _ (fun p => lies_at (S2.out.step p.is).blk 105 8 _ D.out.conflict) Try.underlying27 rfl (by rw [List.length_map, L2.out.cf]; exact info8) ?_
  refine Row.wpPh_eql 27 _ _ _ rfl rfl rfl (T.conflict.map I).toArray (U.conflict.map I).toArray rfl rfl guard8 b3 E3.out ?_
  cases b3
  · repeat
      (refine Ph.wpPh_calm rfl (fun K hK => ?_)
       go_simp
       refine hK _ ?_
       clear hK K)
    refine Ph.wpPh_nil ?_
    intro w2 hb2
    have B2 : Hid (Below w.heap.size w w2) := Below.trans S1.out.bel (Below.mono hb2 S1.out.bel.size)
    clear hb2 hne q104 q113 q114 q115 r104 r113 r114 r115
    go_wp2
    go_ret
    exact ⟨ret_bool (decide_eq_false (fun q => of_decide_eq_false V3.out (by rw [q]))).symm, B2.out⟩
  iterate 6
    (refine Ph.wpPh_calm rfl (fun K hK => ?_)
     go_simp
     refine hK _ ?_
     clear hK K)
  (refine Ph.wpPh_calm rfl (fun K hK => ?_)
   go_simp
   refine ⟨_, fun p => Row.Old.call (F4.out p), hK _ ?_⟩
   clear hK K)
  cases b4
  · repeat
      (refine Ph.wpPh_calm rfl (fun K hK => ?_)
       go_simp
       refine hK _ ?_
       clear hK K)
    refine Ph.wpPh_nil ?_
    intro w2 hb2
    have B2 : Hid (Below w.heap.size w w2) := Below.trans S1.out.bel (Below.mono hb2 S1.out.bel.size)
    clear hb2 hne q104 q113 q114 q115 r104 r113 r114 r115
    go_wp2
    go_ret
    exact ⟨ret_bool (decide_eq_false (fun q => of_decide_eq_false V4.out (by rw [q]))).symm, B2.out⟩
  iterate 6
    (refine Ph.wpPh_calm rfl (fun K hK => ?_)
     go_simp
     refine hK _ ?_
     clear hK K)
  (refine Ph.wpPh_calm rfl (fun K hK => ?_)
   go_simp
   refine ⟨_, fun p => Row.Old.call (F5.out p), hK _ ?_⟩
   clear hK K)
  cases b5
  · repeat
      (refine Ph.wpPh_calm rfl (fun K hK => ?_)
       go_simp
       refine hK _ ?_
       clear hK K)
    refine Ph.wpPh_nil ?_
    intro w2 hb2
    have B2 : Hid (Below w.heap.size w w2) := Below.trans S1.out.bel (Below.mono hb2 S1.out.bel.size)
    clear hb2 hne q104 q113 q114 q115 r104 r113 r114 r115
    go_wp2
    go_ret
    exact ⟨ret_bool (decide_eq_false (fun q => of_decide_eq_false V5.out (by rw [q]))).symm, B2.out⟩
  iterate 6
    (refine Ph.wpPh_calm rfl (fun K hK => ?_)
     go_simp
     refine hK _ ?_
     clear hK K)
  (refine Ph.wpPh_calm rfl (fun K hK => ?_)
   go_simp
   refine ⟨_, fun p => Row.Old.call (F6.out p), hK _ ?_⟩
   clear hK K)
  cases b6
  · repeat
      (refine Ph.wpPh_calm rfl (fun K hK => ?_)
       go_simp
       refine hK _ ?_
       clear hK K)
    refine Ph.wpPh_nil ?_
    intro w2 hb2
    have B2 : Hid (Below w.heap.size w w2) := Below.trans S1.out.bel (Below.mono hb2 S1.out.bel.size)
    clear hb2 hne q104 q113 q114 q115 r104 r113 r114 r115
    go_wp2
    go_ret
    exact ⟨ret_bool (decide_eq_false (fun q => of_decide_eq_false V6.out (by rw [q]))).symm, B2.out⟩
  iterate 3
    (refine Ph.wpPh_calm rfl (fun K hK => ?_)
     go_simp
     refine hK _ ?_
     clear hK K)
  refine Row.wpPh_load rfl rfl 27 _ rfl ⟨w.heap.size, 121, none⟩ rfl (T.flash.map I) _ (fun p => lies_at (S1.out.step p.is).blk 121 8 _ C.out.flash) Try.underlying27 rfl (by rw [List.length_map, L1.out.fl]; exact info8) ?_
  (refine Ph.wpPh_calm rfl (fun K hK => ?_)
   go_simp
   refine hK _ ?_
   clear hK K)
  refine Row.wpPh_load rfl rfl 27 _ rfl ⟨w.heap.size + 1, 121, none⟩ rfl (U.flash.map I) _ (fun p => lies_at (S2.out.step p.is).blk 121 8 _ D.out.flash) Try.underlying27 rfl (by rw [List.length_map, L2.out.fl]; exact info8) ?_
  refine Row.wpPh_eql 27 _ _ _ rfl rfl rfl (T.flash.map I).toArray (U.flash.map I).toArray rfl rfl guard8 b7 E7.out ?_
  cases b7
  · repeat
      (refine Ph.wpPh_calm rfl (fun K hK => ?_)
       go_simp
       refine hK _ ?_
       clear hK K)
    refine Ph.wpPh_nil ?_
    intro w2 hb2
    have B2 : Hid (Below w.heap.size w w2) := Below.trans S1.out.bel (Below.mono hb2 S1.out.bel.size)
    clear hb2 hne q104 q113 q114 q115 r104 r113 r114 r115
    go_wp2
    go_ret
    exact ⟨ret_bool (decide_eq_false (fun q => of_decide_eq_false V7.out (by rw [q]))).symm, B2.out⟩
  iterate 2
    (refine Ph.wpPh_calm rfl (fun K hK => ?_)
     go_simp
     refine hK _ ?_
     clear hK K)
  refine Row.wpPh_load rfl rfl 32 _ rfl ⟨w.heap.size, 0, none⟩ rfl cs.toList _ (fun p => Row.lies_of_block (S1.out.step p.is).blk) Try.underlying32 rfl (by rw [Array.length_toList, C.out.size]; exact infoT) ?_
  (refine Ph.wpPh_calm rfl (fun K hK => ?_)
   go_simp
   refine ⟨_, fun p => Row.Old.call (F81.out p), hK _ ?_⟩
   clear hK K)
  refine Row.wpPh_load rfl rfl 32 _ rfl ⟨w.heap.size + 1, 0, none⟩ rfl ds.toList _ (fun p => Row.lies_of_block (S2.out.step p.is).blk) Try.underlying32 rfl (by rw [Array.length_toList, D.out.size]; exact infoT) ?_
  (refine Ph.wpPh_calm rfl (fun K hK => ?_)
   go_simp
   refine ⟨_, fun p => Row.Old.call (F82.out p), hK _ ?_⟩
   clear hK K)
  refine Row.wpPh_eql 74 _ _ _ rfl rfl rfl ((single T).map I).toArray ((single U).map I).toArray rfl rfl guard7 b8 E8.out ?_
  cases b8
  · repeat
      (refine Ph.wpPh_calm rfl (fun K hK => ?_)
       go_simp
       refine hK _ ?_
       clear hK K)
    refine Ph.wpPh_nil ?_
    intro w2 hb2
    have B2 : Hid (Below w.heap.size w w2) := Below.trans S1.out.bel (Below.mono hb2 S1.out.bel.size)
    clear hb2 hne q104 q113 q114 q115 r104 r113 r114 r115
    go_wp2
    go_ret
    exact ⟨ret_bool (decide_eq_false (fun q => of_decide_eq_false V8.out (by rw [q]))).symm, B2.out⟩
  iterate 2
    (refine Ph.wpPh_calm rfl (fun K hK => ?_)
     go_simp
     refine hK _ ?_
     clear hK K)
  refine Ph.wpPh_nil ?_
  intro w2 hb2
  have B2 : Hid (Below w.heap.size w w2) := Below.trans S1.out.bel (Below.mono hb2 S1.out.bel.size)
  clear hb2 hne q104 q113 q114 q115 r104 r113 r114 r115
  go_wp2
  go_ret
  exact ⟨ret_bool (decide_eq_true (tab_eq (of_decide_eq_true V1.out) (GD.out.1 (of_decide_eq_true V2.out)) (of_decide_eq_true V3.out) (of_decide_eq_true V4.out) (of_decide_eq_true V5.out) (of_decide_eq_true V6.out) (of_decide_eq_true V7.out) (of_decide_eq_true V8.out))).symm, B2.out⟩
end Go.Proofs.Ytfekngnfjemgeaa.Same
/- The contract of the document's SameInts. -/
namespace Go.Proofs.Ytfekngnfjemgeaa.Same
open Go.ChangeShapes Go.WideShapes Go.ChangeAt Go.RowKit
open Tab
open May (ret_bool chain take_succ' infoP infoG infoD infoR infoB infoT row_new St)
set_option linter.unusedVariables false
set_option linter.unusedSimpArgs false
set_option maxHeartbeats 1000000 in
theorem rints_any (a b : Option Addr) (ca cb : Nat) (l m : List Int) (w : World) (h : IntRow w ⟨a, ca⟩ l) (h' : IntRow w ⟨b, cb⟩ m) :
    Calls Try.prog 38 #[.slice a l.length ca, .slice b m.length cb] w fun e w' => e = .returned (.bool (decide (l = m))) ∧ Below w.heap.size w w' := by
  have h1 := h.len
  have h2 := h'.len
  unfold maxLen at h1 h2
  have Hr := Lib.hid h
  have Hr' := Lib.hid h'
  clear h h'
  by_cases hlen : l.length = m.length
  · have HL := Lib.hid hlen
    have hd : ((l.length : Int) != (m.length : Int)) = false := by rw [bne_eq_false_iff_eq]; omega
    go_enter Try.func38, Try.ntmps38
    go_wp2
    go_loopw [5] (fun i wr => ∃ k : Nat, k ≤ l.length ∧ i = .int .i64 k ∧ l.take k = m.take k ∧ Below w.heap.size w wr) (fun i _ => l.length - (intOf i).toNat)
    case atStart => exact ⟨0, by omega, rfl, rfl, Below.refl _ _⟩
    case round =>
      obtain ⟨k, hk, rfl, hall, hbel⟩ := hrel
      have Hall := Lib.hid hall
      have Hb := Lib.hid hbel
      clear hall hbel
      by_cases hlt : k < l.length
      · have hv := List.getElem?_eq_getElem hlt
        have hu := List.getElem?_eq_getElem (show k < m.length by omega)
        generalize l[k] = v at hv
        generalize m[k]'(show k < m.length by omega) = u at hu
        obtain ⟨x, hx, hc⟩ := IntRow.at (Hr.out.below Hb.out) hv
        obtain rfl : a = some x := hx
        obtain ⟨y, hy, hc'⟩ := IntRow.at (Hr'.out.below Hb.out) hu
        obtain rfl : b = some y := hy
        have HV := Lib.hid hv
        have HU := Lib.hid hu
        have hkm : k < m.length := by omega
        have hq : ∀ p : Ph.S (Row.Old wr), p.world.cell? (x.add k) = some (I v) := fun p => (p.is.cell (World.block_lt_of_cell? wr _ hc)).trans hc
        have hq' : ∀ p : Ph.S (Row.Old wr), p.world.cell? (y.add k) = some (I u) := fun p => (p.is.cell (World.block_lt_of_cell? wr _ hc')).trans hc'
        have hne : Nonempty (Ph.S (Row.Old wr)) := ⟨⟨0, wr, Below.refl _ _⟩⟩
        clear hv hu hc hc'
        go_wp2_with fail
        refine Ph.wp_region_ph (Row.Old wr) [] (by kernel_rfl) (by kernel_rfl) (Row.Old.drew _) ?_
        repeat
          (refine Ph.wpPh_calm rfl (fun K hK => ?_)
           go_simp
           refine hK _ ?_
           clear hK K)
        refine Ph.wpPh_nil ?_
        intro w2 hb2
        have B2 := Lib.hid (Below.trans Hb.out (Below.mono hb2 Hb.out.size))
        clear hb2 hne hq hq'
        by_cases hvu : v = u
        · have HE := Lib.hid hvu
          have hb : (v != u) = false := by simpa using hvu
          clear hvu
          go_wp2
          go_roundw
          case rel => exact ⟨k + 1, by omega, by go_num, eq_step HV.out HU.out Hall.out HE.out, B2.out⟩
          case measure => simp [intOf]; omega
        · have HE := Lib.hid (show ¬ l = m from eq_break HV.out HU.out hvu)
          have hb : (v != u) = true := by simpa using hvu
          clear hvu
          go_wp2
          go_ret
          exact ⟨ret_bool (decide_eq_false HE.out).symm, B2.out⟩
      · have HE := Lib.hid (show l = m from eq_end Hall.out HL.out hlt)
        go_wp2
        go_ret
        exact ⟨ret_bool (decide_eq_true HE.out).symm, Hb.out⟩
  · have HL := Lib.hid (show ¬ l = m from fun e => hlen (by rw [e]))
    have hd : ((l.length : Int) != (m.length : Int)) = true := by rw [bne_iff_ne]; omega
    go_enter Try.func38, Try.ntmps38
    go_wp2
    go_ret
    exact ⟨ret_bool (decide_eq_false HL.out).symm, Below.refl _ _⟩
theorem rints_len (a b : Option Addr) (ca cb : Nat) (l m : List Int) (n n' : Nat) (hn : l.length = n) (hn' : m.length = n') (w : World) (h : IntRow w ⟨a, ca⟩ l) (h' : IntRow w ⟨b, cb⟩ m) :
    Calls Try.prog 38 #[.slice a n ca, .slice b n' cb] w fun e w' => e = .returned (.bool (decide (l = m))) ∧ Below w.heap.size w w' := by
  subst hn hn'; exact rints_any a b ca cb l m w h h'
end Go.Proofs.Ytfekngnfjemgeaa.Same
/- Region 13 of the document's Same: two detectors are boxed. -/
namespace Go.Proofs.Ytfekngnfjemgeaa.Same
open Go.ChangeShapes Go.WideShapes Go.ChangeAt Go.RowKit
open Tab Owned CodeAt
open May (ret_bool chain take_succ' infoP infoG infoD infoR infoB infoT row_new St)
set_option linter.unusedVariables false
set_option linter.unusedSimpArgs false
theorem own2_alloc {B : Nat} {v : World} {L : List Blk} (h : Owned.Own B v L) (hB : B ≤ v.heap.size) (cs : List Value) (t : TypeId) : Owned.Own B (v.alloc (.cells cs.toArray t)) (⟨v.heap.size, cs, t⟩ :: L) :=
  h.add ((Below.refl _ _).alloc (Nat.le_refl _) _) (heap_alloc_new v _) (Nat.le_refl _) hB
theorem wp_store_whole {P : Program} {o : Oper} {a : Act} {w : World} {K : Act → World → Prop} {Q : Exit → Act → World → Prop} (ty : TypeId) (x y : Operand) (ho : o.op = .store ty x y) (g : Nat) (cells : Array Value) (hx : a.eval x = .pointer (some ⟨g, 0, none⟩)) (hy : a.eval y = .agg cells)
    (t : TypeId) (old : Array Value) (hg : w.heap[g]? = some (.cells old t (0, 0))) (hi : (P.info? ty).map (·.size) = some cells.size) (hs : old.size = cells.size) (h1 : cells.all (·.oneCell') = true) (hd : o.dst = none) (h : K a (w.setRow g cells)) : o.wp P a w K Q := by
  have hr := Row.run_storeAt_at (P := P) w g 0 t ty old cells hg hi (by omega) h1
  have e : (old.toList.take 0 ++ cells.toList ++ old.toList.drop (0 + cells.size)).toArray = cells := by
    rw [List.drop_of_length_le (by simp; omega)]; simp
  rw [e] at hr
  unfold Oper.wp execOp
  simp only [ho, hx, hy, Sem.run_bind, hr, Result.andThen_ok, Sem.run_pure]
  show K (a.put o.dst undef) _
  rw [hd]
  exact h
set_option maxRecDepth 100000 in
set_option maxHeartbeats 20000000 in
theorem boxes_rg {Q : Exit → Act → World → Prop} (hP : ∀ c (a a' : Act) w, a.defers = a'.defers → Q (.panic c) a w → Q (.panic c) a' w) (w wr : World) (q n n' c c' : Nat) (x y : Addr) (v0 u0 : Det) (hlt : q < n) (hlu : q < n') (K1 : n ≤ c ∧ c ≤ 2 ^ 63 - 1) (K2 : n' ≤ c' ∧ c' ≤ 2 ^ 63 - 1)
    (qq113 : Hid (wr.cell? ⟨w.heap.size, 113, none⟩ = some (.slice (some x) n c))) (rr113 : Hid (wr.cell? ⟨w.heap.size + 1, 113, none⟩ = some (.slice (some y) n' c')))
    (HC : Hid (Lies wr (x.add (q * 7)) v0.cells)) (HC' : Hid (Lies wr (y.add (q * 7)) u0.cells)) (f0 f1 f4 f5 f7 f8 f9 f10 f11 f12 f13 f14 f15 f16 f17 f18 f19 f20 f21 f22 f23 f24 f25 f26 f27 f28 f29 f30 f31 f32 f33 f34 f35 f36 f37 f38 f39 f40 f41 f42 f43 f44 f45 f46 f47 f48 f49 f50 f51 f52 f53 f54 f55 f56 f57 f58 f59 f60 f61 f62 f63 f64 f65 f66 f67 f68 f69 f70 f71 f72 f73 f74 f75 f76 f77 f78 f79 f80 f81 f82 f83 f84 f85 f86 f87 f88 f89 f90 f91 f92 f93 f94 f95 f96 f97 f98 f99 f100 f101 f102 f103 f104 f105 f106 f107 f108 f109 f110 f111 f112 f113 f114 f115 f116 f117 f118 f119 f120 f121 f122 f123 f124 f125 f126 f127 f128 f129 f130 f131 f132 f133 f134 f135 f136 f137 f138 f139 f140 f141 f142 f143 f144 f145 f146 f147 f148 f149 f150 f151 f152 f153 f154 f155 f156 f157 f158 f159 f160 f161 f162 f163 f164 f165 f166 f167 f168 f169 f170 f171 f172 f173 f174 f175 f176 f177 f178 f179 f180 f181 f182 f183 f184 f185 f186 f187 f188 f189 f190 f191 f192 f193 f194 f195 f196 f197 f198 f199 f200 f201 f202 f203 f204 f205 f206 f207 f208 f209 f210 f211 f212 f213 f214 f215 f216 f217 f218 f219 f220 f221 f222 f223 f224 f225 f226 f227 f228 f229 f230 f231 f232 f233 f234 f235 f236 f237 f238 f239 f240 f241 f242 : Value)
    (HQ : Hid (∀ (x142 x143 x144 x145 x146 x147 x148 x149 x150 x151 : Value) (g7 g8 : Nat) (w' : World), w'.heap[g7]? = some (.cells v0.cells.toArray 39 (0, 0)) → w'.heap[g8]? = some (.cells u0.cells.toArray 39 (0, 0)) → Below wr.heap.size wr w' → Q .normal ⟨#[f0, f1, Value.pointer (some ⟨w.heap.size, 0, none⟩), Value.pointer (some ⟨w.heap.size + 1, 0, none⟩), f4, f5, Value.int .i64 (q : Int), Value.pointer (some ⟨g7, 0, none⟩), Value.pointer (some ⟨g8, 0, none⟩), f9, f10, f11, f12, f13, f14, f15, f16, f17, f18, f19, f20, f21, f22, f23, f24, f25, f26, f27, f28, f29, f30, f31, f32, f33, f34, f35, f36, f37, f38, f39, f40, f41, f42, f43, f44, f45, f46, f47, f48, f49, f50, f51, f52, f53, f54, f55, f56, f57, f58, f59, f60, f61, f62, f63, f64, f65, f66, f67, f68, f69, f70, f71, f72, f73, f74, f75, f76, f77, f78, f79, f80, f81, f82, f83, f84, f85, f86, f87, f88, f89, f90, f91, f92, f93, f94, f95, f96, f97, f98, f99, f100, f101, f102, f103, f104, f105, f106, f107, f108, f109, f110, f111, f112, f113, f114, f115, f116, f117, f118, f119, f120, f121, f122, f123, f124, f125, f126, f127, f128, f129, f130, f131, f132, f133, f134, f135, f136, f137, f138, f139, f140, f141, x142, x143, x144, x145, x146, x147, x148, x149, x150, x151, f152, f153, f154, f155, f156, f157, f158, f159, f160, f161, f162, f163, f164, f165, f166, f167, f168, f169, f170, f171, f172, f173, f174, f175, f176, f177, f178, f179, f180, f181, f182, f183, f184, f185, f186, f187, f188, f189, f190, f191, f192, f193, f194, f195, f196, f197, f198, f199, f200, f201, f202, f203, f204, f205, f206, f207, f208, f209, f210, f211, f212, f213, f214, f215, f216, f217, f218, f219, f220, f221, f222, f223, f224, f225, f226, f227, f228, f229, f230, f231, f232, f233, f234, f235, f236, f237, f238, f239, f240, f241, f242], []⟩ w')) :
    (rg 13 Try.f10).wp Try.prog Q ⟨#[f0, f1, Value.pointer (some ⟨w.heap.size, 0, none⟩), Value.pointer (some ⟨w.heap.size + 1, 0, none⟩), f4, f5, Value.int .i64 (q : Int), f7, f8, f9, f10, f11, f12, f13, f14, f15, f16, f17, f18, f19, f20, f21, f22, f23, f24, f25, f26, f27, f28, f29, f30, f31, f32, f33, f34, f35, f36, f37, f38, f39, f40, f41, f42, f43, f44, f45, f46, f47, f48, f49, f50, f51, f52, f53, f54, f55, f56, f57, f58, f59, f60, f61, f62, f63, f64, f65, f66, f67, f68, f69, f70, f71, f72, f73, f74, f75, f76, f77, f78, f79, f80, f81, f82, f83, f84, f85, f86, f87, f88, f89, f90, f91, f92, f93, f94, f95, f96, f97, f98, f99, f100, f101, f102, f103, f104, f105, f106, f107, f108, f109, f110, f111, f112, f113, f114, f115, f116, f117, f118, f119, f120, f121, f122, f123, f124, f125, f126, f127, f128, f129, f130, f131, f132, f133, f134, f135, f136, f137, f138, f139, f140, f141, f142, f143, f144, f145, f146, f147, f148, f149, f150, f151, f152, f153, f154, f155, f156, f157, f158, f159, f160, f161, f162, f163, f164, f165, f166, f167, f168, f169, f170, f171, f172, f173, f174, f175, f176, f177, f178, f179, f180, f181, f182, f183, f184, f185, f186, f187, f188, f189, f190, f191, f192, f193, f194, f195, f196, f197, f198, f199, f200, f201, f202, f203, f204, f205, f206, f207, f208, f209, f210, f211, f212, f213, f214, f215, f216, f217, f218, f219, f220, f221, f222, f223, f224, f225, f226, f227, f228, f229, f230, f231, f232, f233, f234, f235, f236, f237, f238, f239, f240, f241, f242], []⟩ wr := by
  conv => arg 2; whnf
  refine wp_region_held (S := fun w' => Below wr.heap.size wr w') (by kernel_rfl) ?_
  have hS : Below wr.heap.size wr { wr with drawn := wr.drawn + 1 } := (Below.refl _ _).drew
  have O : Hid (Owned.Own wr.heap.size { wr with drawn := wr.drawn + 1 } []) := Owned.Own.nil
  generalize ({ wr with drawn := wr.drawn + 1 } : World) = v at hS O ⊢
  refine Held.take (i := 0) (some 142) rfl (v := ?_) rfl (by kernel_rfl) (by kernel_rfl) (by kernel_rfl) (fun c a w h => hP c _ a w (by rfl) h) (Or.inl ⟨by rfl, ?_⟩) hS ?_
  rotate_left
  · intro w' hw'
    go_simp
    try with_reducible rfl
  (try dsimp only [Act.put]); (try simp only [List.setIfInBounds_toArray, List.set_cons_zero, List.set_cons_succ])
  refine Held.take (i := 1) (some 143) rfl (v := ?_) rfl (by kernel_rfl) (by kernel_rfl) (by kernel_rfl) (fun c a w h => hP c _ a w (by rfl) h) (Or.inl ⟨by rfl, ?_⟩) hS ?_
  rotate_left
  · intro w' hw'
    have e1 := (hw'.cell (World.block_lt_of_cell? wr _ qq113.out)).trans qq113.out
    go_simp
    try with_reducible rfl
  (try dsimp only [Act.put]); (try simp only [List.setIfInBounds_toArray, List.set_cons_zero, List.set_cons_succ])
  refine Held.take (i := 2) (some 144) rfl (v := ?_) rfl (by kernel_rfl) (by kernel_rfl) (by kernel_rfl) (fun c a w h => hP c _ a w (by rfl) h) (Or.inl ⟨by rfl, ?_⟩) hS ?_
  rotate_left
  · intro w' hw'
    go_simp
    try with_reducible rfl
  (try dsimp only [Act.put]); (try simp only [List.setIfInBounds_toArray, List.set_cons_zero, List.set_cons_succ])
  refine Held.take (i := 3) (some 145) rfl (v := ?_) rfl (by kernel_rfl) (by kernel_rfl) (by kernel_rfl) (fun c a w h => hP c _ a w (by rfl) h) (Or.inl ⟨by rfl, ?_⟩) hS ?_
  rotate_left
  · intro w' hw'
    go_simp
    try with_reducible rfl
  (try dsimp only [Act.put]); (try simp only [List.setIfInBounds_toArray, List.set_cons_zero, List.set_cons_succ])
  refine Held.take_load (i := 4) (some 146) rfl 39 _ (x.add (q * 7)) v0.cells _ rfl rfl (by kernel_rfl) (by kernel_rfl) (by kernel_rfl) (fun c a w h => hP c _ a w (by rfl) h) (by rfl) hS rfl (fun w' hw' => HC.out.below hw') Try.underlying39 rfl infoD ?_
  (try dsimp only [Act.put]); (try simp only [List.setIfInBounds_toArray, List.set_cons_zero, List.set_cons_succ])
  refine Held.take (i := 5) (some 147) rfl (v := ?_) rfl (by kernel_rfl) (by kernel_rfl) (by kernel_rfl) (fun c a w h => hP c _ a w (by rfl) h) (Or.inl ⟨by rfl, ?_⟩) hS ?_
  rotate_left
  · intro w' hw'
    go_simp
    try with_reducible rfl
  (try dsimp only [Act.put]); (try simp only [List.setIfInBounds_toArray, List.set_cons_zero, List.set_cons_succ])
  refine Held.take (i := 6) (some 148) rfl (v := ?_) rfl (by kernel_rfl) (by kernel_rfl) (by kernel_rfl) (fun c a w h => hP c _ a w (by rfl) h) (Or.inl ⟨by rfl, ?_⟩) hS ?_
  rotate_left
  · intro w' hw'
    have e1 := (hw'.cell (World.block_lt_of_cell? wr _ rr113.out)).trans rr113.out
    go_simp
    try with_reducible rfl
  (try dsimp only [Act.put]); (try simp only [List.setIfInBounds_toArray, List.set_cons_zero, List.set_cons_succ])
  refine Held.take (i := 7) (some 149) rfl (v := ?_) rfl (by kernel_rfl) (by kernel_rfl) (by kernel_rfl) (fun c a w h => hP c _ a w (by rfl) h) (Or.inl ⟨by rfl, ?_⟩) hS ?_
  rotate_left
  · intro w' hw'
    go_simp
    try with_reducible rfl
  (try dsimp only [Act.put]); (try simp only [List.setIfInBounds_toArray, List.set_cons_zero, List.set_cons_succ])
  refine Held.take (i := 8) (some 150) rfl (v := ?_) rfl (by kernel_rfl) (by kernel_rfl) (by kernel_rfl) (fun c a w h => hP c _ a w (by rfl) h) (Or.inl ⟨by rfl, ?_⟩) hS ?_
  rotate_left
  · intro w' hw'
    go_simp
    try with_reducible rfl
  (try dsimp only [Act.put]); (try simp only [List.setIfInBounds_toArray, List.set_cons_zero, List.set_cons_succ])
  refine Held.take_load (i := 9) (some 151) rfl 39 _ (y.add (q * 7)) u0.cells _ rfl rfl (by kernel_rfl) (by kernel_rfl) (by kernel_rfl) (fun c a w h => hP c _ a w (by rfl) h) (by rfl) hS rfl (fun w' hw' => HC'.out.below hw') Try.underlying39 rfl infoD ?_
  (try dsimp only [Act.put]); (try simp only [List.setIfInBounds_toArray, List.set_cons_zero, List.set_cons_succ])
  refine wpAnyH_ready (rs := [10, 11]) (by kernel_rfl) (by simp) (AllReadyH.cons rfl (fun K hK => ?_) (AllReadyH.cons rfl (fun K hK => ?_) AllReadyH.nil))
  · go_simp
    have O2 := Lib.hid (own2_alloc O.out hS.size [.int .i64 0, .float .f64 0, .float .f64 0, .float .f64 0, .float .f64 0, .int .i64 0, .int .i64 0] 39)
    refine hK.out _ _ (hS.alloc (by exact hS.size) _) (fun hS => ?_)
    clear hK K O
    generalize v.heap.size = g10 at O2 ⊢
    generalize v.alloc _ = v at hS O2 ⊢
    have O := O2
    clear O2
    refine wpAnyH_ready (rs := [11]) (by kernel_rfl) (by simp) (AllReadyH.cons rfl (fun K hK => ?_) AllReadyH.nil)
    · go_simp
      have O2 := Lib.hid (own2_alloc O.out hS.size [.int .i64 0, .float .f64 0, .float .f64 0, .float .f64 0, .float .f64 0, .int .i64 0, .int .i64 0] 39)
      refine hK.out _ _ (hS.alloc (by exact hS.size) _) (fun hS => ?_)
      clear hK K O
      generalize v.heap.size = g11 at O2 ⊢
      generalize v.alloc _ = v at hS O2 ⊢
      have O := O2
      clear O2
      refine wpAnyH_ready (rs := [12]) (by kernel_rfl) (by simp) (AllReadyH.cons rfl (fun K hK => ?_) AllReadyH.nil)
      · rw [if_pos (by rfl)]
        refine wp_store_whole 39 _ _ rfl g10 v0.cells.toArray rfl rfl 39 _ (O.out.get (x := ⟨g10, [.int .i64 0, .float .f64 0, .float .f64 0, .float .f64 0, .float .f64 0, .int .i64 0, .int .i64 0], _⟩) (by simp only [List.mem_cons, true_or, or_true])) infoD rfl (Det.one _) rfl ?_
        have O2 := O.out.row_at (i := 1) rfl v0.cells
        dsimp only [List.set_cons_succ, List.set_cons_zero] at O2
        have hS2 := below_setRow hS (g := g10) (O.out.base (x := ⟨g10, [.int .i64 0, .float .f64 0, .float .f64 0, .float .f64 0, .float .f64 0, .int .i64 0, .int .i64 0], 39⟩) (by simp only [List.mem_cons, true_or, or_true])) v0.cells.toArray
        clear O hS
        generalize v.setRow _ _ = v at hS2 O2 ⊢
        refine hK.out _ _ hS2 (fun hS => ?_)
        clear hK K hS2
        have O := Lib.hid O2
        clear O2
        refine wpAnyH_ready (rs := [13]) (by kernel_rfl) (by simp) (AllReadyH.cons rfl (fun K hK => ?_) AllReadyH.nil)
        · rw [if_pos (by rfl)]
          refine wp_store_whole 39 _ _ rfl g11 u0.cells.toArray rfl rfl 39 _ (O.out.get (x := ⟨g11, [.int .i64 0, .float .f64 0, .float .f64 0, .float .f64 0, .float .f64 0, .int .i64 0, .int .i64 0], _⟩) (by simp only [List.mem_cons, true_or, or_true])) infoD rfl (Det.one _) rfl ?_
          have O2 := O.out.row_at (i := 0) rfl u0.cells
          dsimp only [List.set_cons_succ, List.set_cons_zero] at O2
          have hS2 := below_setRow hS (g := g11) (O.out.base (x := ⟨g11, [.int .i64 0, .float .f64 0, .float .f64 0, .float .f64 0, .float .f64 0, .int .i64 0, .int .i64 0], 39⟩) (by simp only [List.mem_cons, true_or, or_true])) u0.cells.toArray
          clear O hS
          generalize v.setRow _ _ = v at hS2 O2 ⊢
          refine hK.out _ _ hS2 (fun hS => ?_)
          clear hK K hS2
          have O := Lib.hid O2
          clear O2
          refine wpAnyH_done (by kernel_rfl) ?_ _
          exact HQ.out _ _ _ _ _ _ _ _ _ _ g10 g11 _ (O.out.get (x := ⟨g10, v0.cells, _⟩) (by simp only [List.mem_cons, true_or, or_true])) (O.out.get (x := ⟨g11, u0.cells, _⟩) (by simp only [List.mem_cons, true_or, or_true])) hS
  · go_simp
    have O2 := Lib.hid (own2_alloc O.out hS.size [.int .i64 0, .float .f64 0, .float .f64 0, .float .f64 0, .float .f64 0, .int .i64 0, .int .i64 0] 39)
    refine hK.out _ _ (hS.alloc (by exact hS.size) _) (fun hS => ?_)
    clear hK K O
    generalize v.heap.size = g11 at O2 ⊢
    generalize v.alloc _ = v at hS O2 ⊢
    have O := O2
    clear O2
    refine wpAnyH_ready (rs := [10]) (by kernel_rfl) (by simp) (AllReadyH.cons rfl (fun K hK => ?_) AllReadyH.nil)
    · go_simp
      have O2 := Lib.hid (own2_alloc O.out hS.size [.int .i64 0, .float .f64 0, .float .f64 0, .float .f64 0, .float .f64 0, .int .i64 0, .int .i64 0] 39)
      refine hK.out _ _ (hS.alloc (by exact hS.size) _) (fun hS => ?_)
      clear hK K O
      generalize v.heap.size = g10 at O2 ⊢
      generalize v.alloc _ = v at hS O2 ⊢
      have O := O2
      clear O2
      refine wpAnyH_ready (rs := [12]) (by kernel_rfl) (by simp) (AllReadyH.cons rfl (fun K hK => ?_) AllReadyH.nil)
      · rw [if_pos (by rfl)]
        refine wp_store_whole 39 _ _ rfl g10 v0.cells.toArray rfl rfl 39 _ (O.out.get (x := ⟨g10, [.int .i64 0, .float .f64 0, .float .f64 0, .float .f64 0, .float .f64 0, .int .i64 0, .int .i64 0], _⟩) (by simp only [List.mem_cons, true_or, or_true])) infoD rfl (Det.one _) rfl ?_
        have O2 := O.out.row_at (i := 0) rfl v0.cells
        dsimp only [List.set_cons_succ, List.set_cons_zero] at O2
        have hS2 := below_setRow hS (g := g10) (O.out.base (x := ⟨g10, [.int .i64 0, .float .f64 0, .float .f64 0, .float .f64 0, .float .f64 0, .int .i64 0, .int .i64 0], 39⟩) (by simp only [List.mem_cons, true_or, or_true])) v0.cells.toArray
        clear O hS
        generalize v.setRow _ _ = v at hS2 O2 ⊢
        refine hK.out _ _ hS2 (fun hS => ?_)
        clear hK K hS2
        have O := Lib.hid O2
        clear O2
        refine wpAnyH_ready (rs := [13]) (by kernel_rfl) (by simp) (AllReadyH.cons rfl (fun K hK => ?_) AllReadyH.nil)
        · rw [if_pos (by rfl)]
          refine wp_store_whole 39 _ _ rfl g11 u0.cells.toArray rfl rfl 39 _ (O.out.get (x := ⟨g11, [.int .i64 0, .float .f64 0, .float .f64 0, .float .f64 0, .float .f64 0, .int .i64 0, .int .i64 0], _⟩) (by simp only [List.mem_cons, true_or, or_true])) infoD rfl (Det.one _) rfl ?_
          have O2 := O.out.row_at (i := 1) rfl u0.cells
          dsimp only [List.set_cons_succ, List.set_cons_zero] at O2
          have hS2 := below_setRow hS (g := g11) (O.out.base (x := ⟨g11, [.int .i64 0, .float .f64 0, .float .f64 0, .float .f64 0, .float .f64 0, .int .i64 0, .int .i64 0], 39⟩) (by simp only [List.mem_cons, true_or, or_true])) u0.cells.toArray
          clear O hS
          generalize v.setRow _ _ = v at hS2 O2 ⊢
          refine hK.out _ _ hS2 (fun hS => ?_)
          clear hK K hS2
          have O := Lib.hid O2
          clear O2
          refine wpAnyH_done (by kernel_rfl) ?_ _
          exact HQ.out _ _ _ _ _ _ _ _ _ _ g10 g11 _ (O.out.get (x := ⟨g10, v0.cells, _⟩) (by simp only [List.mem_cons, true_or, or_true])) (O.out.get (x := ⟨g11, u0.cells, _⟩) (by simp only [List.mem_cons, true_or, or_true])) hS
end Go.Proofs.Ytfekngnfjemgeaa.Same
/- Region 1 of the generator's own rail: four numbers, two sets, a new rail. -/
namespace Go.Proofs.Ytfekngnfjemgeaa.GenR
open Go.ChangeShapes Go.WideShapes Go.ChangeAt Go.RowKit
open Tab Clone RefS CodeAt
open May (infoR infoT)
open Same (below_setRow)
open GenW Where
set_option linter.unusedVariables false
set_option linter.unusedSimpArgs false
abbrev FromC (a : Option Addr) (cap : Nat) (L : List Int) (w : World) (i n x : Int) : Prop := ∀ W, Below w.heap.size w W → Calls Try.prog 19 #[.slice a L.length cap, .int .i64 i, .int .i64 n] W fun e w' => e = .returned (.int .i64 x) ∧ w' = W
set_option maxRecDepth 100000 in
set_option maxHeartbeats 8000000 in
theorem rail1_rg {Q : Exit → Act → World → Prop} (hP : ∀ c (a a' : Act) w, a.defers = a'.defers → Q (.panic c) a w → Q (.panic c) a' w) (T : Tab) (c : List Value) (a : Option Addr) (cap : Nat) (L : List Int) (i n x0 x1 x2 x3 : Int) (w u : World) (h0 : 0 ≤ i) (h1 : i ≤ 100000)
    (IA : Hid ((Try.prog.info? 32).map (·.size) = some c.length)) (HB : Hid (Below w.heap.size w u)) (HS : Hid (u.heap.size = w.heap.size + 2)) (LT : Hid (∀ w', Below u.heap.size u w' → Lies w' ⟨w.heap.size, 0, none⟩ c))
    (F0 : Hid (FromC a cap L w i n x0)) (F1 : Hid (FromC a cap L w (i + 1) n x1)) (F2 : Hid (FromC a cap L w (i + 2) n x2)) (F3 : Hid (FromC a cap L w (i + 3) n x3))
    (WC : Hid (∀ (p q : Int) W, Below w.heap.size w W → Calls Try.prog 57 #[.agg c.toArray, .int .i64 p, .int .i64 q] W fun e w' => e = .returned (.int .i64 (withS T p q)) ∧ Below W.heap.size W w')) (f0 f5 f6 f7 f8 f9 f10 f11 f12 f13 f14 f15 f16 f17 f18 f19 f20 f21 f22 f23 f24 f25 f26 f27 f28 f29 f30 f31 f32 f33 f34 f35 f36 f37 f38 f39 f40 f41 f42 f43 f44 f45 f46 f47 f48 f49 f50 f51 f52 f53 f54 f55 f56 f57 f58 f59 f60 f61 f62 f63 f64 f65 f66 f67 f68 f69 f70 f71 f72 f73 f74 f75 f76 f77 f78 f79 f80 f81 f82 f83 f84 f85 f86 f87 f88 f89 f90 f91 f92 f93 f94 f95 f96 f97 f98 f99 f100 f101 f102 f103 f104 f105 f106 f107 f108 f109 f110 f111 f112 f113 f114 f115 f116 f117 f118 : Value)
    (HQ : Hid (∀ (x_11 x_12 x_13 x_14 x_15 x_16 x_17 x_18 x_19 x_20 x_21 x_22 x_23 x_24 x_25 x_26 x_27 x_28 x_29 x_30 x_31 x_32 x_33 x_34 : Value) (b5 : Nat) (wx : World), w.heap.size + 1 < b5 → wx.heap[b5]? = some (.cells #[I 0, I 0, I (withS T x0 x1), I (withS T x2 x3), I 0, I 0, I 0, I 0, I 0, I 0, I 0] 41 (0, 0)) → Below u.heap.size u wx → Q .normal ⟨#[f0, .slice a L.length cap, .int .i64 i, .int .i64 n, .pointer (some ⟨w.heap.size, 0, none⟩), f5, f6, f7, f8, .pointer (some ⟨b5, 0, none⟩), f10, x_11, x_12, x_13, x_14, x_15, x_16, x_17, x_18, x_19, x_20, x_21, x_22, x_23, x_24, x_25, x_26, x_27, x_28, x_29, x_30, x_31, x_32, x_33, x_34, f35, f36, f37, f38, f39, f40, f41, f42, f43, f44, f45, f46, f47, f48, f49, f50, f51, f52, f53, f54, f55, f56, f57, f58, f59, f60, f61, f62, f63, f64, f65, f66, f67, f68, f69, f70, f71, f72, f73, f74, f75, f76, f77, f78, f79, f80, f81, f82, f83, f84, f85, f86, f87, f88, f89, f90, f91, f92, f93, f94, f95, f96, f97, f98, f99, f100, f101, f102, f103, f104, f105, f106, f107, f108, f109, f110, f111, f112, f113, f114, f115, f116, f117, f118], []⟩ wx)) :
    (rg 1 Try.f22).wp Try.prog Q ⟨#[f0, .slice a L.length cap, .int .i64 i, .int .i64 n, .pointer (some ⟨w.heap.size, 0, none⟩), f5, f6, f7, f8, f9, f10, f11, f12, f13, f14, f15, f16, f17, f18, f19, f20, f21, f22, f23, f24, f25, f26, f27, f28, f29, f30, f31, f32, f33, f34, f35, f36, f37, f38, f39, f40, f41, f42, f43, f44, f45, f46, f47, f48, f49, f50, f51, f52, f53, f54, f55, f56, f57, f58, f59, f60, f61, f62, f63, f64, f65, f66, f67, f68, f69, f70, f71, f72, f73, f74, f75, f76, f77, f78, f79, f80, f81, f82, f83, f84, f85, f86, f87, f88, f89, f90, f91, f92, f93, f94, f95, f96, f97, f98, f99, f100, f101, f102, f103, f104, f105, f106, f107, f108, f109, f110, f111, f112, f113, f114, f115, f116, f117, f118], []⟩ u := by
  conv => arg 2; whnf
  have e1 : IntKind.i64.wrap (i + 1) = i + 1 := by rw [IntKind.wrap_i64]; omega
  have e2 : IntKind.i64.wrap (i + 2) = i + 2 := by rw [IntKind.wrap_i64]; omega
  have e3 : IntKind.i64.wrap (i + 3) = i + 3 := by rw [IntKind.wrap_i64]; omega
  refine wp_region_held (S := fun w' => Below u.heap.size u w') (by kernel_rfl) ?_
  have hS : Below u.heap.size u { u with drawn := u.drawn + 1 } := (Below.refl _ _).drew
  generalize ({ u with drawn := u.drawn + 1 } : World) = v at hS ⊢
  refine Held.take_load (i := 0) (some 11) rfl 32 _ ⟨w.heap.size, 0, none⟩ c _ rfl rfl (by kernel_rfl) (by kernel_rfl) (by kernel_rfl) (fun c a w h => hP c _ a w (by rfl) h) (by rfl) hS rfl (LT.out) Try.underlying32 rfl IA.out ?_
  (try dsimp only [Act.put]); (try simp only [List.setIfInBounds_toArray, List.set_cons_zero, List.set_cons_succ])
  refine Held.take (i := 1) (some 12) rfl (v := ?_) rfl (by kernel_rfl) (by kernel_rfl) (by kernel_rfl) (fun c a w h => hP c _ a w (by rfl) h) (Or.inl ⟨by rfl, ?_⟩) hS ?_
  rotate_left
  · intro w' hw'
    go_simp
    try with_reducible rfl
  (try dsimp only [Act.put]); (try simp only [List.setIfInBounds_toArray, List.set_cons_zero, List.set_cons_succ])
  refine Held.take (i := 2) (some 13) rfl (v := ?_) rfl (by kernel_rfl) (by kernel_rfl) (by kernel_rfl) (fun c a w h => hP c _ a w (by rfl) h) (Or.inl ⟨by rfl, ?_⟩) hS ?_
  rotate_left
  · intro w' hw'
    go_simp
    try with_reducible rfl
  (try dsimp only [Act.put]); (try simp only [List.setIfInBounds_toArray, List.set_cons_zero, List.set_cons_succ])
  refine Held.take (i := 3) (some 14) rfl (v := ?_) rfl (by kernel_rfl) (by kernel_rfl) (by kernel_rfl) (fun c a w h => hP c _ a w (by rfl) h) (Or.inl ⟨by rfl, ?_⟩) hS ?_
  rotate_left
  · intro w' hw'
    go_simp
    try with_reducible rfl
  (try dsimp only [Act.put]); (try simp only [List.setIfInBounds_toArray, List.set_cons_zero, List.set_cons_succ])
  refine Held.take (i := 5) (some 16) rfl (v := ?_) rfl (by kernel_rfl) (by kernel_rfl) (by kernel_rfl) (fun c a w h => hP c _ a w (by rfl) h) (Or.inl ⟨by rfl, ?_⟩) hS ?_
  rotate_left
  · intro w' hw'
    go_simp
    try with_reducible rfl
  (try dsimp only [Act.put]); (try simp only [List.setIfInBounds_toArray, List.set_cons_zero, List.set_cons_succ])
  refine Held.take (i := 6) (some 17) rfl (v := ?_) rfl (by kernel_rfl) (by kernel_rfl) (by kernel_rfl) (fun c a w h => hP c _ a w (by rfl) h) (Or.inl ⟨by rfl, ?_⟩) hS ?_
  rotate_left
  · intro w' hw'
    go_simp
    try with_reducible rfl
  (try dsimp only [Act.put]); (try simp only [List.setIfInBounds_toArray, List.set_cons_zero, List.set_cons_succ])
  refine Held.take (i := 7) (some 18) rfl (v := ?_) rfl (by kernel_rfl) (by kernel_rfl) (by kernel_rfl) (fun c a w h => hP c _ a w (by rfl) h) (Or.inl ⟨by rfl, ?_⟩) hS ?_
  rotate_left
  · intro w' hw'
    go_simp
    try with_reducible rfl
  (try dsimp only [Act.put]); (try simp only [List.setIfInBounds_toArray, List.set_cons_zero, List.set_cons_succ])
  refine Held.take (i := 8) (some 19) rfl (v := ?_) rfl (by kernel_rfl) (by kernel_rfl) (by kernel_rfl) (fun c a w h => hP c _ a w (by rfl) h) (Or.inl ⟨by rfl, ?_⟩) hS ?_
  rotate_left
  · intro w' hw'
    go_simp
    try with_reducible rfl
  (try dsimp only [Act.put]); (try simp only [List.setIfInBounds_toArray, List.set_cons_zero, List.set_cons_succ])
  refine Held.take_load (i := 11) (some 22) rfl 32 _ ⟨w.heap.size, 0, none⟩ c _ rfl rfl (by kernel_rfl) (by kernel_rfl) (by kernel_rfl) (fun c a w h => hP c _ a w (by rfl) h) (by rfl) hS rfl (LT.out) Try.underlying32 rfl IA.out ?_
  (try dsimp only [Act.put]); (try simp only [List.setIfInBounds_toArray, List.set_cons_zero, List.set_cons_succ])
  refine Held.take (i := 12) (some 23) rfl (v := ?_) rfl (by kernel_rfl) (by kernel_rfl) (by kernel_rfl) (fun c a w h => hP c _ a w (by rfl) h) (Or.inl ⟨by rfl, ?_⟩) hS ?_
  rotate_left
  · intro w' hw'
    go_simp
    try with_reducible rfl
  (try dsimp only [Act.put]); (try simp only [List.setIfInBounds_toArray, List.set_cons_zero, List.set_cons_succ])
  refine Held.take (i := 13) (some 24) rfl (v := ?_) rfl (by kernel_rfl) (by kernel_rfl) (by kernel_rfl) (fun c a w h => hP c _ a w (by rfl) h) (Or.inl ⟨by rfl, ?_⟩) hS ?_
  rotate_left
  · intro w' hw'
    go_simp
    try with_reducible rfl
  (try dsimp only [Act.put]); (try simp only [List.setIfInBounds_toArray, List.set_cons_zero, List.set_cons_succ])
  refine Held.take (i := 14) (some 25) rfl (v := ?_) rfl (by kernel_rfl) (by kernel_rfl) (by kernel_rfl) (fun c a w h => hP c _ a w (by rfl) h) (Or.inl ⟨by rfl, ?_⟩) hS ?_
  rotate_left
  · intro w' hw'
    go_simp
    try with_reducible rfl
  (try dsimp only [Act.put]); (try simp only [List.setIfInBounds_toArray, List.set_cons_zero, List.set_cons_succ])
  refine Held.take (i := 15) (some 26) rfl (v := ?_) rfl (by kernel_rfl) (by kernel_rfl) (by kernel_rfl) (fun c a w h => hP c _ a w (by rfl) h) (Or.inl ⟨by rfl, ?_⟩) hS ?_
  rotate_left
  · intro w' hw'
    go_simp
    try with_reducible rfl
  (try dsimp only [Act.put]); (try simp only [List.setIfInBounds_toArray, List.set_cons_zero, List.set_cons_succ])
  refine Held.take (i := 17) (some 28) rfl (v := ?_) rfl (by kernel_rfl) (by kernel_rfl) (by kernel_rfl) (fun c a w h => hP c _ a w (by rfl) h) (Or.inl ⟨by rfl, ?_⟩) hS ?_
  rotate_left
  · intro w' hw'
    go_simp
    try with_reducible rfl
  (try dsimp only [Act.put]); (try simp only [List.setIfInBounds_toArray, List.set_cons_zero, List.set_cons_succ])
  refine Held.take (i := 18) (some 29) rfl (v := ?_) rfl (by kernel_rfl) (by kernel_rfl) (by kernel_rfl) (fun c a w h => hP c _ a w (by rfl) h) (Or.inl ⟨by rfl, ?_⟩) hS ?_
  rotate_left
  · intro w' hw'
    go_simp
    try with_reducible rfl
  (try dsimp only [Act.put]); (try simp only [List.setIfInBounds_toArray, List.set_cons_zero, List.set_cons_succ])
  refine Held.take (i := 19) (some 30) rfl (v := ?_) rfl (by kernel_rfl) (by kernel_rfl) (by kernel_rfl) (fun c a w h => hP c _ a w (by rfl) h) (Or.inl ⟨by rfl, ?_⟩) hS ?_
  rotate_left
  · intro w' hw'
    go_simp
    try with_reducible rfl
  (try dsimp only [Act.put]); (try simp only [List.setIfInBounds_toArray, List.set_cons_zero, List.set_cons_succ])
  refine Held.take (i := 20) (some 31) rfl (v := ?_) rfl (by kernel_rfl) (by kernel_rfl) (by kernel_rfl) (fun c a w h => hP c _ a w (by rfl) h) (Or.inl ⟨by rfl, ?_⟩) hS ?_
  rotate_left
  · intro w' hw'
    go_simp
    try with_reducible rfl
  (try dsimp only [Act.put]); (try simp only [List.setIfInBounds_toArray, List.set_cons_zero, List.set_cons_succ])
  refine wpAnyH_ready (rs := [4, 24]) (by kernel_rfl) (by simp) (AllReadyH.cons rfl (fun K hK => ?_) (AllReadyH.cons rfl (fun K hK => ?_) AllReadyH.nil))
  · go_simp
    refine (F0.out _ (HB.out.trans (hS.mono HB.out.size))).mono ?_
    rintro e w' ⟨rfl, hq⟩
    subst w'
    go_simp
    refine hK.out _ _ hS (fun hS => ?_)
    clear hK K
    refine wpAnyH_ready (rs := [9, 24]) (by kernel_rfl) (by simp) (AllReadyH.cons rfl (fun K hK => ?_) (AllReadyH.cons rfl (fun K hK => ?_) AllReadyH.nil))
    · go_simp
      refine (F1.out _ (HB.out.trans (hS.mono HB.out.size))).mono ?_
      rintro e w' ⟨rfl, hq⟩
      subst w'
      go_simp
      refine hK.out _ _ hS (fun hS => ?_)
      clear hK K
      refine wpAnyH_ready (rs := [10, 24]) (by kernel_rfl) (by simp) (AllReadyH.cons rfl (fun K hK => ?_) (AllReadyH.cons rfl (fun K hK => ?_) AllReadyH.nil))
      · go_simp
        refine (WC.out x0 x1 _ (HB.out.trans (hS.mono HB.out.size))).mono ?_
        rintro e v ⟨rfl, hb⟩
        go_simp
        refine hK.out _ _ (Below.trans hS (hb.mono hS.size)) (fun hS => ?_)
        clear hK K hb
        refine wpAnyH_ready (rs := [16, 24]) (by kernel_rfl) (by simp) (AllReadyH.cons rfl (fun K hK => ?_) (AllReadyH.cons rfl (fun K hK => ?_) AllReadyH.nil))
        · go_simp
          refine (F2.out _ (HB.out.trans (hS.mono HB.out.size))).mono ?_
          rintro e w' ⟨rfl, hq⟩
          subst w'
          go_simp
          refine hK.out _ _ hS (fun hS => ?_)
          clear hK K
          refine wpAnyH_ready (rs := [21, 24]) (by kernel_rfl) (by simp) (AllReadyH.cons rfl (fun K hK => ?_) (AllReadyH.cons rfl (fun K hK => ?_) AllReadyH.nil))
          · go_simp
            refine (F3.out _ (HB.out.trans (hS.mono HB.out.size))).mono ?_
            rintro e w' ⟨rfl, hq⟩
            subst w'
            go_simp
            refine hK.out _ _ hS (fun hS => ?_)
            clear hK K
            refine wpAnyH_ready (rs := [22, 24]) (by kernel_rfl) (by simp) (AllReadyH.cons rfl (fun K hK => ?_) (AllReadyH.cons rfl (fun K hK => ?_) AllReadyH.nil))
            · go_simp
              refine (WC.out x2 x3 _ (HB.out.trans (hS.mono HB.out.size))).mono ?_
              rintro e v ⟨rfl, hb⟩
              go_simp
              refine hK.out _ _ (Below.trans hS (hb.mono hS.size)) (fun hS => ?_)
              clear hK K hb
              refine Held.take (i := 23) (some 34) rfl (v := ?_) rfl (by kernel_rfl) (by kernel_rfl) (by kernel_rfl) (fun c a w h => hP c _ a w (by rfl) h) (Or.inl ⟨by rfl, ?_⟩) hS ?_
              rotate_left
              · intro w' hw'
                go_simp
                try with_reducible rfl
              (try dsimp only [Act.put]); (try simp only [List.setIfInBounds_toArray, List.set_cons_zero, List.set_cons_succ])
              refine wpAnyH_ready (rs := [24]) (by kernel_rfl) (by simp) (AllReadyH.cons rfl (fun K hK => ?_) AllReadyH.nil)
              go_simp
              have g5 := heap_alloc_new v (.cells #[I 0, I 0, I 0, I 0, I 0, I 0, I 0, I 0, I 0, I 0, I 0] 41)
              have b5lt : w.heap.size + 1 < v.heap.size := by have := HS.out; have := hS.size; omega
              have b5u : u.heap.size ≤ v.heap.size := hS.size
              refine hK.out _ _ (hS.alloc hS.size _) (fun hS => ?_)
              clear hK K
              generalize v.heap.size = b5 at g5 b5lt b5u ⊢
              generalize World.alloc v _ = v at g5 hS ⊢
              have G5 := Lib.hid g5
              clear g5
              refine wpAnyH_ready (rs := [25]) (by kernel_rfl) (by simp) (AllReadyH.cons rfl (fun K hK => ?_) AllReadyH.nil)
              rw [if_pos (by rfl)]
              refine Same.wp_store_whole 41 _ _ rfl b5 #[I 0, I 0, I (withS T x0 x1), I (withS T x2 x3), I 0, I 0, I 0, I 0, I 0, I 0, I 0] rfl rfl 41 _ G5.out infoR rfl (by simp [Value.oneCell']) rfl ?_
              have hS2 := below_setRow hS (g := b5) (by omega) #[I 0, I 0, I (withS T x0 x1), I (withS T x2 x3), I 0, I 0, I 0, I 0, I 0, I 0, I 0]
              have g5 := setRow_heap v b5 _ #[I 0, I 0, I (withS T x0 x1), I (withS T x2 x3), I 0, I 0, I 0, I 0, I 0, I 0, I 0] _ _ G5.out
              clear G5 hS
              generalize v.setRow _ _ = v at hS2 g5 ⊢
              refine hK.out _ _ hS2 (fun hS => ?_)
              clear hK K hS2
              refine wpAnyH_done (by kernel_rfl) ?_ _
              exact HQ.out _ _ _ _ _ _ _ _ _ _ _ _ _ _ _ _ _ _ _ _ _ _ _ _ b5 _ b5lt g5 hS
            · go_simp
              have g5 := heap_alloc_new v (.cells #[I 0, I 0, I 0, I 0, I 0, I 0, I 0, I 0, I 0, I 0, I 0] 41)
              have b5lt : w.heap.size + 1 < v.heap.size := by have := HS.out; have := hS.size; omega
              have b5u : u.heap.size ≤ v.heap.size := hS.size
              refine hK.out _ _ (hS.alloc hS.size _) (fun hS => ?_)
              clear hK K
              generalize v.heap.size = b5 at g5 b5lt b5u ⊢
              generalize World.alloc v _ = v at g5 hS ⊢
              have G5 := Lib.hid g5
              clear g5
              refine wpAnyH_ready (rs := [22]) (by kernel_rfl) (by simp) (AllReadyH.cons rfl (fun K hK => ?_) AllReadyH.nil)
              go_simp
              refine (WC.out x2 x3 _ (HB.out.trans (hS.mono HB.out.size))).mono ?_
              rintro e v ⟨rfl, hb⟩
              go_simp
              have G5b := Lib.hid ((hb.block _ (Array.getElem?_eq_some_iff.1 G5.out).1).trans G5.out)
              clear G5
              have G5 := G5b
              clear G5b
              refine hK.out _ _ (Below.trans hS (hb.mono hS.size)) (fun hS => ?_)
              clear hK K hb
              refine Held.take (i := 23) (some 34) rfl (v := ?_) rfl (by kernel_rfl) (by kernel_rfl) (by kernel_rfl) (fun c a w h => hP c _ a w (by rfl) h) (Or.inl ⟨by rfl, ?_⟩) hS ?_
              rotate_left
              · intro w' hw'
                go_simp
                try with_reducible rfl
              (try dsimp only [Act.put]); (try simp only [List.setIfInBounds_toArray, List.set_cons_zero, List.set_cons_succ])
              refine wpAnyH_ready (rs := [25]) (by kernel_rfl) (by simp) (AllReadyH.cons rfl (fun K hK => ?_) AllReadyH.nil)
              rw [if_pos (by rfl)]
              refine Same.wp_store_whole 41 _ _ rfl b5 #[I 0, I 0, I (withS T x0 x1), I (withS T x2 x3), I 0, I 0, I 0, I 0, I 0, I 0, I 0] rfl rfl 41 _ G5.out infoR rfl (by simp [Value.oneCell']) rfl ?_
              have hS2 := below_setRow hS (g := b5) (by omega) #[I 0, I 0, I (withS T x0 x1), I (withS T x2 x3), I 0, I 0, I 0, I 0, I 0, I 0, I 0]
              have g5 := setRow_heap v b5 _ #[I 0, I 0, I (withS T x0 x1), I (withS T x2 x3), I 0, I 0, I 0, I 0, I 0, I 0, I 0] _ _ G5.out
              clear G5 hS
              generalize v.setRow _ _ = v at hS2 g5 ⊢
              refine hK.out _ _ hS2 (fun hS => ?_)
              clear hK K hS2
              refine wpAnyH_done (by kernel_rfl) ?_ _
              exact HQ.out _ _ _ _ _ _ _ _ _ _ _ _ _ _ _ _ _ _ _ _ _ _ _ _ b5 _ b5lt g5 hS
          · go_simp
            have g5 := heap_alloc_new v (.cells #[I 0, I 0, I 0, I 0, I 0, I 0, I 0, I 0, I 0, I 0, I 0] 41)
            have b5lt : w.heap.size + 1 < v.heap.size := by have := HS.out; have := hS.size; omega
            have b5u : u.heap.size ≤ v.heap.size := hS.size
            refine hK.out _ _ (hS.alloc hS.size _) (fun hS => ?_)
            clear hK K
            generalize v.heap.size = b5 at g5 b5lt b5u ⊢
            generalize World.alloc v _ = v at g5 hS ⊢
            have G5 := Lib.hid g5
            clear g5
            refine wpAnyH_ready (rs := [21]) (by kernel_rfl) (by simp) (AllReadyH.cons rfl (fun K hK => ?_) AllReadyH.nil)
            go_simp
            refine (F3.out _ (HB.out.trans (hS.mono HB.out.size))).mono ?_
            rintro e w' ⟨rfl, hq⟩
            subst w'
            go_simp
            refine hK.out _ _ hS (fun hS => ?_)
            clear hK K
            refine wpAnyH_ready (rs := [22]) (by kernel_rfl) (by simp) (AllReadyH.cons rfl (fun K hK => ?_) AllReadyH.nil)
            go_simp
            refine (WC.out x2 x3 _ (HB.out.trans (hS.mono HB.out.size))).mono ?_
            rintro e v ⟨rfl, hb⟩
            go_simp
            have G5b := Lib.hid ((hb.block _ (Array.getElem?_eq_some_iff.1 G5.out).1).trans G5.out)
            clear G5
            have G5 := G5b
            clear G5b
            refine hK.out _ _ (Below.trans hS (hb.mono hS.size)) (fun hS => ?_)
            clear hK K hb
            refine Held.take (i := 23) (some 34) rfl (v := ?_) rfl (by kernel_rfl) (by kernel_rfl) (by kernel_rfl) (fun c a w h => hP c _ a w (by rfl) h) (Or.inl ⟨by rfl, ?_⟩) hS ?_
            rotate_left
            · intro w' hw'
              go_simp
              try with_reducible rfl
            (try dsimp only [Act.put]); (try simp only [List.setIfInBounds_toArray, List.set_cons_zero, List.set_cons_succ])
            refine wpAnyH_ready (rs := [25]) (by kernel_rfl) (by simp) (AllReadyH.cons rfl (fun K hK => ?_) AllReadyH.nil)
            rw [if_pos (by rfl)]
            refine Same.wp_store_whole 41 _ _ rfl b5 #[I 0, I 0, I (withS T x0 x1), I (withS T x2 x3), I 0, I 0, I 0, I 0, I 0, I 0, I 0] rfl rfl 41 _ G5.out infoR rfl (by simp [Value.oneCell']) rfl ?_
            have hS2 := below_setRow hS (g := b5) (by omega) #[I 0, I 0, I (withS T x0 x1), I (withS T x2 x3), I 0, I 0, I 0, I 0, I 0, I 0, I 0]
            have g5 := setRow_heap v b5 _ #[I 0, I 0, I (withS T x0 x1), I (withS T x2 x3), I 0, I 0, I 0, I 0, I 0, I 0, I 0] _ _ G5.out
            clear G5 hS
            generalize v.setRow _ _ = v at hS2 g5 ⊢
            refine hK.out _ _ hS2 (fun hS => ?_)
            clear hK K hS2
            refine wpAnyH_done (by kernel_rfl) ?_ _
            exact HQ.out _ _ _ _ _ _ _ _ _ _ _ _ _ _ _ _ _ _ _ _ _ _ _ _ b5 _ b5lt g5 hS
        · go_simp
          have g5 := heap_alloc_new v (.cells #[I 0, I 0, I 0, I 0, I 0, I 0, I 0, I 0, I 0, I 0, I 0] 41)
          have b5lt : w.heap.size + 1 < v.heap.size := by have := HS.out; have := hS.size; omega
          have b5u : u.heap.size ≤ v.heap.size := hS.size
          refine hK.out _ _ (hS.alloc hS.size _) (fun hS => ?_)
          clear hK K
          generalize v.heap.size = b5 at g5 b5lt b5u ⊢
          generalize World.alloc v _ = v at g5 hS ⊢
          have G5 := Lib.hid g5
          clear g5
          refine wpAnyH_ready (rs := [16]) (by kernel_rfl) (by simp) (AllReadyH.cons rfl (fun K hK => ?_) AllReadyH.nil)
          go_simp
          refine (F2.out _ (HB.out.trans (hS.mono HB.out.size))).mono ?_
          rintro e w' ⟨rfl, hq⟩
          subst w'
          go_simp
          refine hK.out _ _ hS (fun hS => ?_)
          clear hK K
          refine wpAnyH_ready (rs := [21]) (by kernel_rfl) (by simp) (AllReadyH.cons rfl (fun K hK => ?_) AllReadyH.nil)
          go_simp
          refine (F3.out _ (HB.out.trans (hS.mono HB.out.size))).mono ?_
          rintro e w' ⟨rfl, hq⟩
          subst w'
          go_simp
          refine hK.out _ _ hS (fun hS => ?_)
          clear hK K
          refine wpAnyH_ready (rs := [22]) (by kernel_rfl) (by simp) (AllReadyH.cons rfl (fun K hK => ?_) AllReadyH.nil)
          go_simp
          refine (WC.out x2 x3 _ (HB.out.trans (hS.mono HB.out.size))).mono ?_
          rintro e v ⟨rfl, hb⟩
          go_simp
          have G5b := Lib.hid ((hb.block _ (Array.getElem?_eq_some_iff.1 G5.out).1).trans G5.out)
          clear G5
          have G5 := G5b
          clear G5b
          refine hK.out _ _ (Below.trans hS (hb.mono hS.size)) (fun hS => ?_)
          clear hK K hb
          refine Held.take (i := 23) (some 34) rfl (v := ?_) rfl (by kernel_rfl) (by kernel_rfl) (by kernel_rfl) (fun c a w h => hP c _ a w (by rfl) h) (Or.inl ⟨by rfl, ?_⟩) hS ?_
          rotate_left
          · intro w' hw'
            go_simp
            try with_reducible rfl
          (try dsimp only [Act.put]); (try simp only [List.setIfInBounds_toArray, List.set_cons_zero, List.set_cons_succ])
          refine wpAnyH_ready (rs := [25]) (by kernel_rfl) (by simp) (AllReadyH.cons rfl (fun K hK => ?_) AllReadyH.nil)
          rw [if_pos (by rfl)]
          refine Same.wp_store_whole 41 _ _ rfl b5 #[I 0, I 0, I (withS T x0 x1), I (withS T x2 x3), I 0, I 0, I 0, I 0, I 0, I 0, I 0] rfl rfl 41 _ G5.out infoR rfl (by simp [Value.oneCell']) rfl ?_
          have hS2 := below_setRow hS (g := b5) (by omega) #[I 0, I 0, I (withS T x0 x1), I (withS T x2 x3), I 0, I 0, I 0, I 0, I 0, I 0, I 0]
          have g5 := setRow_heap v b5 _ #[I 0, I 0, I (withS T x0 x1), I (withS T x2 x3), I 0, I 0, I 0, I 0, I 0, I 0, I 0] _ _ G5.out
          clear G5 hS
          generalize v.setRow _ _ = v at hS2 g5 ⊢
          refine hK.out _ _ hS2 (fun hS => ?_)
          clear hK K hS2
          refine wpAnyH_done (by kernel_rfl) ?_ _
          exact HQ.out _ _ _ _ _ _ _ _ _ _ _ _ _ _ _ _ _ _ _ _ _ _ _ _ b5 _ b5lt g5 hS
      · go_simp
        have g5 := heap_alloc_new v (.cells #[I 0, I 0, I 0, I 0, I 0, I 0, I 0, I 0, I 0, I 0, I 0] 41)
        have b5lt : w.heap.size + 1 < v.heap.size := by have := HS.out; have := hS.size; omega
        have b5u : u.heap.size ≤ v.heap.size := hS.size
        refine hK.out _ _ (hS.alloc hS.size _) (fun hS => ?_)
        clear hK K
        generalize v.heap.size = b5 at g5 b5lt b5u ⊢
        generalize World.alloc v _ = v at g5 hS ⊢
        have G5 := Lib.hid g5
        clear g5
        refine wpAnyH_ready (rs := [10]) (by kernel_rfl) (by simp) (AllReadyH.cons rfl (fun K hK => ?_) AllReadyH.nil)
        go_simp
        refine (WC.out x0 x1 _ (HB.out.trans (hS.mono HB.out.size))).mono ?_
        rintro e v ⟨rfl, hb⟩
        go_simp
        have G5b := Lib.hid ((hb.block _ (Array.getElem?_eq_some_iff.1 G5.out).1).trans G5.out)
        clear G5
        have G5 := G5b
        clear G5b
        refine hK.out _ _ (Below.trans hS (hb.mono hS.size)) (fun hS => ?_)
        clear hK K hb
        refine wpAnyH_ready (rs := [16]) (by kernel_rfl) (by simp) (AllReadyH.cons rfl (fun K hK => ?_) AllReadyH.nil)
        go_simp
        refine (F2.out _ (HB.out.trans (hS.mono HB.out.size))).mono ?_
        rintro e w' ⟨rfl, hq⟩
        subst w'
        go_simp
        refine hK.out _ _ hS (fun hS => ?_)
        clear hK K
        refine wpAnyH_ready (rs := [21]) (by kernel_rfl) (by simp) (AllReadyH.cons rfl (fun K hK => ?_) AllReadyH.nil)
        go_simp
        refine (F3.out _ (HB.out.trans (hS.mono HB.out.size))).mono ?_
        rintro e w' ⟨rfl, hq⟩
        subst w'
        go_simp
        refine hK.out _ _ hS (fun hS => ?_)
        clear hK K
        refine wpAnyH_ready (rs := [22]) (by kernel_rfl) (by simp) (AllReadyH.cons rfl (fun K hK => ?_) AllReadyH.nil)
        go_simp
        refine (WC.out x2 x3 _ (HB.out.trans (hS.mono HB.out.size))).mono ?_
        rintro e v ⟨rfl, hb⟩
        go_simp
        have G5b := Lib.hid ((hb.block _ (Array.getElem?_eq_some_iff.1 G5.out).1).trans G5.out)
        clear G5
        have G5 := G5b
        clear G5b
        refine hK.out _ _ (Below.trans hS (hb.mono hS.size)) (fun hS => ?_)
        clear hK K hb
        refine Held.take (i := 23) (some 34) rfl (v := ?_) rfl (by kernel_rfl) (by kernel_rfl) (by kernel_rfl) (fun c a w h => hP c _ a w (by rfl) h) (Or.inl ⟨by rfl, ?_⟩) hS ?_
        rotate_left
        · intro w' hw'
          go_simp
          try with_reducible rfl
        (try dsimp only [Act.put]); (try simp only [List.setIfInBounds_toArray, List.set_cons_zero, List.set_cons_succ])
        refine wpAnyH_ready (rs := [25]) (by kernel_rfl) (by simp) (AllReadyH.cons rfl (fun K hK => ?_) AllReadyH.nil)
        rw [if_pos (by rfl)]
        refine Same.wp_store_whole 41 _ _ rfl b5 #[I 0, I 0, I (withS T x0 x1), I (withS T x2 x3), I 0, I 0, I 0, I 0, I 0, I 0, I 0] rfl rfl 41 _ G5.out infoR rfl (by simp [Value.oneCell']) rfl ?_
        have hS2 := below_setRow hS (g := b5) (by omega) #[I 0, I 0, I (withS T x0 x1), I (withS T x2 x3), I 0, I 0, I 0, I 0, I 0, I 0, I 0]
        have g5 := setRow_heap v b5 _ #[I 0, I 0, I (withS T x0 x1), I (withS T x2 x3), I 0, I 0, I 0, I 0, I 0, I 0, I 0] _ _ G5.out
        clear G5 hS
        generalize v.setRow _ _ = v at hS2 g5 ⊢
        refine hK.out _ _ hS2 (fun hS => ?_)
        clear hK K hS2
        refine wpAnyH_done (by kernel_rfl) ?_ _
        exact HQ.out _ _ _ _ _ _ _ _ _ _ _ _ _ _ _ _ _ _ _ _ _ _ _ _ b5 _ b5lt g5 hS
    · go_simp
      have g5 := heap_alloc_new v (.cells #[I 0, I 0, I 0, I 0, I 0, I 0, I 0, I 0, I 0, I 0, I 0] 41)
      have b5lt : w.heap.size + 1 < v.heap.size := by have := HS.out; have := hS.size; omega
      have b5u : u.heap.size ≤ v.heap.size := hS.size
      refine hK.out _ _ (hS.alloc hS.size _) (fun hS => ?_)
      clear hK K
      generalize v.heap.size = b5 at g5 b5lt b5u ⊢
      generalize World.alloc v _ = v at g5 hS ⊢
      have G5 := Lib.hid g5
      clear g5
      refine wpAnyH_ready (rs := [9]) (by kernel_rfl) (by simp) (AllReadyH.cons rfl (fun K hK => ?_) AllReadyH.nil)
      go_simp
      refine (F1.out _ (HB.out.trans (hS.mono HB.out.size))).mono ?_
      rintro e w' ⟨rfl, hq⟩
      subst w'
      go_simp
      refine hK.out _ _ hS (fun hS => ?_)
      clear hK K
      refine wpAnyH_ready (rs := [10]) (by kernel_rfl) (by simp) (AllReadyH.cons rfl (fun K hK => ?_) AllReadyH.nil)
      go_simp
      refine (WC.out x0 x1 _ (HB.out.trans (hS.mono HB.out.size))).mono ?_
      rintro e v ⟨rfl, hb⟩
      go_simp
      have G5b := Lib.hid ((hb.block _ (Array.getElem?_eq_some_iff.1 G5.out).1).trans G5.out)
      clear G5
      have G5 := G5b
      clear G5b
      refine hK.out _ _ (Below.trans hS (hb.mono hS.size)) (fun hS => ?_)
      clear hK K hb
      refine wpAnyH_ready (rs := [16]) (by kernel_rfl) (by simp) (AllReadyH.cons rfl (fun K hK => ?_) AllReadyH.nil)
      go_simp
      refine (F2.out _ (HB.out.trans (hS.mono HB.out.size))).mono ?_
      rintro e w' ⟨rfl, hq⟩
      subst w'
      go_simp
      refine hK.out _ _ hS (fun hS => ?_)
      clear hK K
      refine wpAnyH_ready (rs := [21]) (by kernel_rfl) (by simp) (AllReadyH.cons rfl (fun K hK => ?_) AllReadyH.nil)
      go_simp
      refine (F3.out _ (HB.out.trans (hS.mono HB.out.size))).mono ?_
      rintro e w' ⟨rfl, hq⟩
      subst w'
      go_simp
      refine hK.out _ _ hS (fun hS => ?_)
      clear hK K
      refine wpAnyH_ready (rs := [22]) (by kernel_rfl) (by simp) (AllReadyH.cons rfl (fun K hK => ?_) AllReadyH.nil)
      go_simp
      refine (WC.out x2 x3 _ (HB.out.trans (hS.mono HB.out.size))).mono ?_
      rintro e v ⟨rfl, hb⟩
      go_simp
      have G5b := Lib.hid ((hb.block _ (Array.getElem?_eq_some_iff.1 G5.out).1).trans G5.out)
      clear G5
      have G5 := G5b
      clear G5b
      refine hK.out _ _ (Below.trans hS (hb.mono hS.size)) (fun hS => ?_)
      clear hK K hb
      refine Held.take (i := 23) (some 34) rfl (v := ?_) rfl (by kernel_rfl) (by kernel_rfl) (by kernel_rfl) (fun c a w h => hP c _ a w (by rfl) h) (Or.inl ⟨by rfl, ?_⟩) hS ?_
      rotate_left
      · intro w' hw'
        go_simp
        try with_reducible rfl
      (try dsimp only [Act.put]); (try simp only [List.setIfInBounds_toArray, List.set_cons_zero, List.set_cons_succ])
      refine wpAnyH_ready (rs := [25]) (by kernel_rfl) (by simp) (AllReadyH.cons rfl (fun K hK => ?_) AllReadyH.nil)
      rw [if_pos (by rfl)]
      refine Same.wp_store_whole 41 _ _ rfl b5 #[I 0, I 0, I (withS T x0 x1), I (withS T x2 x3), I 0, I 0, I 0, I 0, I 0, I 0, I 0] rfl rfl 41 _ G5.out infoR rfl (by simp [Value.oneCell']) rfl ?_
      have hS2 := below_setRow hS (g := b5) (by omega) #[I 0, I 0, I (withS T x0 x1), I (withS T x2 x3), I 0, I 0, I 0, I 0, I 0, I 0, I 0]
      have g5 := setRow_heap v b5 _ #[I 0, I 0, I (withS T x0 x1), I (withS T x2 x3), I 0, I 0, I 0, I 0, I 0, I 0, I 0] _ _ G5.out
      clear G5 hS
      generalize v.setRow _ _ = v at hS2 g5 ⊢
      refine hK.out _ _ hS2 (fun hS => ?_)
      clear hK K hS2
      refine wpAnyH_done (by kernel_rfl) ?_ _
      exact HQ.out _ _ _ _ _ _ _ _ _ _ _ _ _ _ _ _ _ _ _ _ _ _ _ _ b5 _ b5lt g5 hS
  · go_simp
    have g5 := heap_alloc_new v (.cells #[I 0, I 0, I 0, I 0, I 0, I 0, I 0, I 0, I 0, I 0, I 0] 41)
    have b5lt : w.heap.size + 1 < v.heap.size := by have := HS.out; have := hS.size; omega
    have b5u : u.heap.size ≤ v.heap.size := hS.size
    refine hK.out _ _ (hS.alloc hS.size _) (fun hS => ?_)
    clear hK K
    generalize v.heap.size = b5 at g5 b5lt b5u ⊢
    generalize World.alloc v _ = v at g5 hS ⊢
    have G5 := Lib.hid g5
    clear g5
    refine wpAnyH_ready (rs := [4]) (by kernel_rfl) (by simp) (AllReadyH.cons rfl (fun K hK => ?_) AllReadyH.nil)
    go_simp
    refine (F0.out _ (HB.out.trans (hS.mono HB.out.size))).mono ?_
    rintro e w' ⟨rfl, hq⟩
    subst w'
    go_simp
    refine hK.out _ _ hS (fun hS => ?_)
    clear hK K
    refine wpAnyH_ready (rs := [9]) (by kernel_rfl) (by simp) (AllReadyH.cons rfl (fun K hK => ?_) AllReadyH.nil)
    go_simp
    refine (F1.out _ (HB.out.trans (hS.mono HB.out.size))).mono ?_
    rintro e w' ⟨rfl, hq⟩
    subst w'
    go_simp
    refine hK.out _ _ hS (fun hS => ?_)
    clear hK K
    refine wpAnyH_ready (rs := [10]) (by kernel_rfl) (by simp) (AllReadyH.cons rfl (fun K hK => ?_) AllReadyH.nil)
    go_simp
    refine (WC.out x0 x1 _ (HB.out.trans (hS.mono HB.out.size))).mono ?_
    rintro e v ⟨rfl, hb⟩
    go_simp
    have G5b := Lib.hid ((hb.block _ (Array.getElem?_eq_some_iff.1 G5.out).1).trans G5.out)
    clear G5
    have G5 := G5b
    clear G5b
    refine hK.out _ _ (Below.trans hS (hb.mono hS.size)) (fun hS => ?_)
    clear hK K hb
    refine wpAnyH_ready (rs := [16]) (by kernel_rfl) (by simp) (AllReadyH.cons rfl (fun K hK => ?_) AllReadyH.nil)
    go_simp
    refine (F2.out _ (HB.out.trans (hS.mono HB.out.size))).mono ?_
    rintro e w' ⟨rfl, hq⟩
    subst w'
    go_simp
    refine hK.out _ _ hS (fun hS => ?_)
    clear hK K
    refine wpAnyH_ready (rs := [21]) (by kernel_rfl) (by simp) (AllReadyH.cons rfl (fun K hK => ?_) AllReadyH.nil)
    go_simp
    refine (F3.out _ (HB.out.trans (hS.mono HB.out.size))).mono ?_
    rintro e w' ⟨rfl, hq⟩
    subst w'
    go_simp
    refine hK.out _ _ hS (fun hS => ?_)
    clear hK K
    refine wpAnyH_ready (rs := [22]) (by kernel_rfl) (by simp) (AllReadyH.cons rfl (fun K hK => ?_) AllReadyH.nil)
    go_simp
    refine (WC.out x2 x3 _ (HB.out.trans (hS.mono HB.out.size))).mono ?_
    rintro e v ⟨rfl, hb⟩
    go_simp
    have G5b := Lib.hid ((hb.block _ (Array.getElem?_eq_some_iff.1 G5.out).1).trans G5.out)
    clear G5
    have G5 := G5b
    clear G5b
    refine hK.out _ _ (Below.trans hS (hb.mono hS.size)) (fun hS => ?_)
    clear hK K hb
    refine Held.take (i := 23) (some 34) rfl (v := ?_) rfl (by kernel_rfl) (by kernel_rfl) (by kernel_rfl) (fun c a w h => hP c _ a w (by rfl) h) (Or.inl ⟨by rfl, ?_⟩) hS ?_
    rotate_left
    · intro w' hw'
      go_simp
      try with_reducible rfl
    (try dsimp only [Act.put]); (try simp only [List.setIfInBounds_toArray, List.set_cons_zero, List.set_cons_succ])
    refine wpAnyH_ready (rs := [25]) (by kernel_rfl) (by simp) (AllReadyH.cons rfl (fun K hK => ?_) AllReadyH.nil)
    rw [if_pos (by rfl)]
    refine Same.wp_store_whole 41 _ _ rfl b5 #[I 0, I 0, I (withS T x0 x1), I (withS T x2 x3), I 0, I 0, I 0, I 0, I 0, I 0, I 0] rfl rfl 41 _ G5.out infoR rfl (by simp [Value.oneCell']) rfl ?_
    have hS2 := below_setRow hS (g := b5) (by omega) #[I 0, I 0, I (withS T x0 x1), I (withS T x2 x3), I 0, I 0, I 0, I 0, I 0, I 0, I 0]
    have g5 := setRow_heap v b5 _ #[I 0, I 0, I (withS T x0 x1), I (withS T x2 x3), I 0, I 0, I 0, I 0, I 0, I 0, I 0] _ _ G5.out
    clear G5 hS
    generalize v.setRow _ _ = v at hS2 g5 ⊢
    refine hK.out _ _ hS2 (fun hS => ?_)
    clear hK K hS2
    refine wpAnyH_done (by kernel_rfl) ?_ _
    exact HQ.out _ _ _ _ _ _ _ _ _ _ _ _ _ _ _ _ _ _ _ _ _ _ _ _ b5 _ b5lt g5 hS
end Go.Proofs.Ytfekngnfjemgeaa.GenR
