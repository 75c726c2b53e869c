/- The contract of table.Same, at any two tables: they are one, or not. -/
import Derived.Test.YtpofccenoobojaaRows
import Derived.Test.YtpofccenoobojaaSameD
import Derived.Test.YtpofccenoobojaaMayE
namespace Go.Proofs.Ytpofccenoobojaa.Same
open Go.ChangeShapes Go.WideShapes Go.ChangeAt Go.RowKit
open Tab
open May (ret_bool chain take_succ' infoP infoG infoD infoR infoB infoT row_new St)
set_option linter.unusedVariables false
set_option linter.unusedSimpArgs false
theorem infoPs : (Try.prog.info? 24).map (·.size) = some 104 := by kernel_rfl
theorem info8 : (Try.prog.info? 26).map (·.size) = some 8 := by kernel_rfl
/-- Two tables, part by part, in the program's order. -/
theorem tab_eq {T U : Tab} (h1 : T.phases = U.phases) (h2 : T.groups = U.groups) (h3 : T.conflict = U.conflict) (h4 : T.dets = U.dets) (h5 : T.rails = U.rails) (h6 : T.buses = U.buses) (h7 : T.flash = U.flash) (h8 : single T = single U) : T = U := by
  obtain ⟨a0, a1, a2, a3, a4, a5, a6, a7, a8, a9, a10, a11, a12, a13⟩ := T
  obtain ⟨b0, b1, b2, b3, b4, b5, b6, b7, b8, b9, b10, b11, b12, b13⟩ := U
  simp only [single, List.cons.injEq, and_true] at h8
  simp_all
theorem lies_at {w : World} {b : Nat} {C : Array Value} {t : TypeId} {fr : Nat × Nat} (hb : w.heap[b]? = some (.cells C t fr)) (o n : Nat) (cs : List Value) (h : (C.toList.drop o).take n = cs) : Lies w ⟨b, o, none⟩ cs := fun j v hv => by
  rw [Addr.add_mid]; exact range_of hb o n cs h j v hv
set_option maxRecDepth 10000 in
set_option maxHeartbeats 8000000 in
theorem same_any (T U : Tab) (h k : Hd) (w : World) (ht : IsTab w h T) (hu : IsTab w k U) :
    Calls Try.prog 8 #[.agg (T.cells h).toArray, .agg (U.cells k).toArray] w fun e w' => e = .returned (.bool (decide (T = U))) ∧ Below w.heap.size w w' := by
  have C := Lib.hid (cells_ok ht)
  have D := Lib.hid (cells_ok hu)
  have C8 : Hid (∀ W, IsTab W h T → Calls Try.prog 24 #[.agg (T.cells h).toArray] W fun e w' => e = .returned (.agg ((single T).map I).toArray) ∧ Below W.heap.size W w') := fun W hW => single_any T h W hW
  have D8 : Hid (∀ W, IsTab W k U → Calls Try.prog 24 #[.agg (U.cells k).toArray] W fun e w' => e = .returned (.agg ((single U).map I).toArray) ∧ Below W.heap.size W w') := fun W hW => single_any U k W hW
  generalize (T.cells h).toArray = cs at C C8 ⊢
  generalize (U.cells k).toArray = ds at D D8 ⊢
  obtain ⟨gs, hgd, hgr⟩ := ht.groups
  obtain ⟨us, hud, hur⟩ := hu.groups
  have hgl : T.groups.length = gs.length := by rw [← hgd, List.length_map]
  have hul : U.groups.length = us.length := by rw [← hud, List.length_map]
  have b1w : Below w.heap.size w ((w.alloc (.cells cs 31)).alloc (.cells ds 31)) := ((Below.refl _ _).alloc (Nat.le_refl _) _).alloc (by simp) _
  have S1 : Hid (St w w.heap.size cs h T ((w.alloc (.cells cs 31)).alloc (.cells ds 31))) := ⟨b1w, heap_alloc2_old w _ _, ht.below b1w, Nat.le_refl _⟩
  have S2 : Hid (St w (w.heap.size + 1) ds k U ((w.alloc (.cells cs 31)).alloc (.cells ds 31))) := ⟨b1w, heap_alloc2_new w _ _, hu.below b1w, by omega⟩
  have G1 := Lib.hid (hgr.below b1w)
  have G2 := Lib.hid (hur.below b1w)
  have E1 := Lib.hid (phases_eqs T.phases U.phases ht.ph hu.ph)
  have E3 := Lib.hid (eight_eqs T.conflict U.conflict ht.cf hu.cf)
  have E7 := Lib.hid (eight_eqs T.flash U.flash ht.fl hu.fl)
  have E8 := Lib.hid (seven_eqs T U)
  have L1 := Lib.hid ht
  have L2 := Lib.hid hu
  have hsz := C.out.size
  have hsd := D.out.size
  clear ht hu hgr hur b1w
  go_enter Try.func8, Try.ntmps8
  go_wp2_with fail
  generalize (w.alloc (.cells cs 31)).alloc (.cells ds 31) = w1 at S1 S2 G1 G2 ⊢
  clear hsz hsd
  have hne : Nonempty (Ph.S (Row.Old w1)) := ⟨⟨0, w1, Below.refl _ _⟩⟩
  have q104 := fun p : Ph.S (Row.Old w1) => (S1.out.step p.is).cell C.out.g
  have q113 := fun p : Ph.S (Row.Old w1) => (S1.out.step p.is).cell C.out.d
  have q114 := fun p : Ph.S (Row.Old w1) => (S1.out.step p.is).cell C.out.r
  have q115 := fun p : Ph.S (Row.Old w1) => (S1.out.step p.is).cell C.out.b
  have r104 := fun p : Ph.S (Row.Old w1) => (S2.out.step p.is).cell D.out.g
  have r113 := fun p : Ph.S (Row.Old w1) => (S2.out.step p.is).cell D.out.d
  have r114 := fun p : Ph.S (Row.Old w1) => (S2.out.step p.is).cell D.out.r
  have r115 := fun p : Ph.S (Row.Old w1) => (S2.out.step p.is).cell D.out.b
  rw [hgl] at q104
  rw [hul] at r104
  clear hgl hul
  have GD : Hid (gs.map Gr.data = us.map Gr.data ↔ T.groups = U.groups) := by rw [hgd, hud]; exact Iff.rfl
  have F2 : Hid (∀ p : Ph.S (Row.Old w1), Calls Try.prog 16 #[.slice h.g.a gs.length h.g.cap, .slice k.g.a us.length k.g.cap, .func (.func 17) #[] #[]] p.world fun e w' => e = .returned (.bool (decide (gs.map Gr.data = us.map Gr.data))) ∧ Below p.world.heap.size p.world w') :=
    fun p => groups_any h.g.a k.g.a h.g.cap k.g.cap gs us _ (G1.out.1.below p.is) (G2.out.1.below p.is) (fun v hv => (G1.out.2 v hv).below p.is) (fun v hv => (G2.out.2 v hv).below p.is)
  have F4 := Lib.hid (fun p : Ph.S (Row.Old w1) => dets_any h.d.a k.d.a h.d.cap k.d.cap T.dets U.dets _ (S1.out.tab.dets.below p.is) (S2.out.tab.dets.below p.is))
  have F5 := Lib.hid (fun p : Ph.S (Row.Old w1) => rails_any h.r.a k.r.a h.r.cap k.r.cap T.rails U.rails _ (S1.out.tab.rails.below p.is) (S2.out.tab.rails.below p.is))
  have F6 := Lib.hid (fun p : Ph.S (Row.Old w1) => buses_any h.b.a k.b.a h.b.cap k.b.cap T.buses U.buses _ (S1.out.tab.buses.below p.is) (S2.out.tab.buses.below p.is))
  have F81 := Lib.hid (fun p : Ph.S (Row.Old w1) => C8.out _ (S1.out.tab.below p.is))
  have F82 := Lib.hid (fun p : Ph.S (Row.Old w1) => D8.out _ (S2.out.tab.below p.is))
  clear hgd hud G1 G2 C8 D8
  generalize hv1 : decide (T.phases = U.phases) = b1 at E1
  have V1 := Lib.hid hv1
  clear hv1
  generalize hv2 : decide (gs.map Gr.data = us.map Gr.data) = b2 at F2
  have V2 := Lib.hid hv2
  clear hv2
  generalize hv3 : decide (T.conflict = U.conflict) = b3 at E3
  have V3 := Lib.hid hv3
  clear hv3
  generalize hv4 : decide (T.dets = U.dets) = b4 at F4
  have V4 := Lib.hid hv4
  clear hv4
  generalize hv5 : decide (T.rails = U.rails) = b5 at F5
  have V5 := Lib.hid hv5
  clear hv5
  generalize hv6 : decide (T.buses = U.buses) = b6 at F6
  have V6 := Lib.hid hv6
  clear hv6
  generalize hv7 : decide (T.flash = U.flash) = b7 at E7
  have V7 := Lib.hid hv7
  clear hv7
  generalize hv8 : decide (single T = single U) = b8 at E8
  have V8 := Lib.hid hv8
  clear hv8
  refine Ph.wp_region_ph (Row.Old w1) [] (by kernel_rfl) (by kernel_rfl) (Row.Old.drew _) ?_
  (refine Ph.wpPh_calm rfl (fun K hK => ?_)
   go_simp
   refine hK _ ?_
   clear hK K)
  refine Row.wpPh_load rfl rfl 24 _ rfl ⟨w.heap.size, 0, none⟩ rfl (T.phases.flatMap Ph.cells) _ (fun p => lies_at (S1.out.step p.is).blk 0 104 _ (by rw [List.drop_zero]; exact C.out.phases)) Try.underlying24 rfl (by rw [phases_len, L1.out.ph]; exact infoPs) ?_
  (refine Ph.wpPh_calm rfl (fun K hK => ?_)
   go_simp
   refine hK _ ?_
   clear hK K)
  refine Row.wpPh_load rfl rfl 24 _ rfl ⟨w.heap.size + 1, 0, none⟩ rfl (U.phases.flatMap Ph.cells) _ (fun p => lies_at (S2.out.step p.is).blk 0 104 _ (by rw [List.drop_zero]; exact D.out.phases)) Try.underlying24 rfl (by rw [phases_len, L2.out.ph]; exact infoPs) ?_
  refine Row.wpPh_eql 24 _ _ _ rfl rfl rfl (T.phases.flatMap Ph.cells).toArray (U.phases.flatMap Ph.cells).toArray rfl rfl guardP b1 E1.out ?_
  cases b1
  · repeat
      (refine Ph.wpPh_calm rfl (fun K hK => ?_)
       go_simp
       refine hK _ ?_
       clear hK K)
    refine Ph.wpPh_nil ?_
    intro w2 hb2
    have B2 : Hid (Below w.heap.size w w2) := Below.trans S1.out.bel (Below.mono hb2 S1.out.bel.size)
    clear hb2 hne q104 q113 q114 q115 r104 r113 r114 r115
    go_wp2
    go_ret
    exact ⟨ret_bool (decide_eq_false (fun q => of_decide_eq_false V1.out (by rw [q]))).symm, B2.out⟩
  iterate 5
    (refine Ph.wpPh_calm rfl (fun K hK => ?_)
     go_simp
     refine hK _ ?_
     clear hK K)
  (refine Ph.wpPh_calm rfl (fun K hK => ?_)
   go_simp
   refine ⟨_, fun p => Row.Old.call (F2.out p), hK _ ?_⟩
   clear hK K)
  cases b2
  · repeat
      (refine Ph.wpPh_calm rfl (fun K hK => ?_)
       go_simp
       refine hK _ ?_
       clear hK K)
    refine Ph.wpPh_nil ?_
    intro w2 hb2
    have B2 : Hid (Below w.heap.size w w2) := Below.trans S1.out.bel (Below.mono hb2 S1.out.bel.size)
    clear hb2 hne q104 q113 q114 q115 r104 r113 r114 r115
    go_wp2
    go_ret
    exact ⟨ret_bool (decide_eq_false (fun q => of_decide_eq_false V2.out (GD.out.2 (by rw [q])))).symm, B2.out⟩
  iterate 3
    (refine Ph.wpPh_calm rfl (fun K hK => ?_)
     go_simp
     refine hK _ ?_
     clear hK K)
  refine Row.wpPh_load rfl rfl 26 _ rfl ⟨w.heap.size, 105, none⟩ rfl (T.conflict.map I) _ (fun p => lies_at (S1.out.step p.is).blk 105 8 _ C.out.conflict) Try.underlying26 rfl (by rw [List.length_map, L1.out.cf]; exact info8) ?_
  (refine Ph.wpPh_calm rfl (fun K hK => ?_)
   go_simp
   refine hK _ ?_
   clear hK K)
  refine Row.wpPh_load rfl rfl 26 _ rfl ⟨w.heap.size + 1, 105, none⟩ rfl (U.conflict.map I) _ (fun p => lies_at (S2.out.step p.is).blk 105 8 _ D.out.conflict) Try.underlying26 rfl (by rw [List.length_map, L2.out.cf]; exact info8) ?_
  refine Row.wpPh_eql 26 _ _ _ rfl rfl rfl (T.conflict.map I).toArray (U.conflict.map I).toArray rfl rfl guard8 b3 E3.out ?_
  cases b3
  · repeat
      (refine Ph.wpPh_calm rfl (fun K hK => ?_)
       go_simp
       refine hK _ ?_
       clear hK K)
    refine Ph.wpPh_nil ?_
    intro w2 hb2
    have B2 : Hid (Below w.heap.size w w2) := Below.trans S1.out.bel (Below.mono hb2 S1.out.bel.size)
    clear hb2 hne q104 q113 q114 q115 r104 r113 r114 r115
    go_wp2
    go_ret
    exact ⟨ret_bool (decide_eq_false (fun q => of_decide_eq_false V3.out (by rw [q]))).symm, B2.out⟩
  iterate 6
    (refine Ph.wpPh_calm rfl (fun K hK => ?_)
     go_simp
     refine hK _ ?_
     clear hK K)
  (refine Ph.wpPh_calm rfl (fun K hK => ?_)
   go_simp
   refine ⟨_, fun p => Row.Old.call (F4.out p), hK _ ?_⟩
   clear hK K)
  cases b4
  · repeat
      (refine Ph.wpPh_calm rfl (fun K hK => ?_)
       go_simp
       refine hK _ ?_
       clear hK K)
    refine Ph.wpPh_nil ?_
    intro w2 hb2
    have B2 : Hid (Below w.heap.size w w2) := Below.trans S1.out.bel (Below.mono hb2 S1.out.bel.size)
    clear hb2 hne q104 q113 q114 q115 r104 r113 r114 r115
    go_wp2
    go_ret
    exact ⟨ret_bool (decide_eq_false (fun q => of_decide_eq_false V4.out (by rw [q]))).symm, B2.out⟩
  iterate 6
    (refine Ph.wpPh_calm rfl (fun K hK => ?_)
     go_simp
     refine hK _ ?_
     clear hK K)
  (refine Ph.wpPh_calm rfl (fun K hK => ?_)
   go_simp
   refine ⟨_, fun p => Row.Old.call (F5.out p), hK _ ?_⟩
   clear hK K)
  cases b5
  · repeat
      (refine Ph.wpPh_calm rfl (fun K hK => ?_)
       go_simp
       refine hK _ ?_
       clear hK K)
    refine Ph.wpPh_nil ?_
    intro w2 hb2
    have B2 : Hid (Below w.heap.size w w2) := Below.trans S1.out.bel (Below.mono hb2 S1.out.bel.size)
    clear hb2 hne q104 q113 q114 q115 r104 r113 r114 r115
    go_wp2
    go_ret
    exact ⟨ret_bool (decide_eq_false (fun q => of_decide_eq_false V5.out (by rw [q]))).symm, B2.out⟩
  iterate 6
    (refine Ph.wpPh_calm rfl (fun K hK => ?_)
     go_simp
     refine hK _ ?_
     clear hK K)
  (refine Ph.wpPh_calm rfl (fun K hK => ?_)
   go_simp
   refine ⟨_, fun p => Row.Old.call (F6.out p), hK _ ?_⟩
   clear hK K)
  cases b6
  · repeat
      (refine Ph.wpPh_calm rfl (fun K hK => ?_)
       go_simp
       refine hK _ ?_
       clear hK K)
    refine Ph.wpPh_nil ?_
    intro w2 hb2
    have B2 : Hid (Below w.heap.size w w2) := Below.trans S1.out.bel (Below.mono hb2 S1.out.bel.size)
    clear hb2 hne q104 q113 q114 q115 r104 r113 r114 r115
    go_wp2
    go_ret
    exact ⟨ret_bool (decide_eq_false (fun q => of_decide_eq_false V6.out (by rw [q]))).symm, B2.out⟩
  iterate 3
    (refine Ph.wpPh_calm rfl (fun K hK => ?_)
     go_simp
     refine hK _ ?_
     clear hK K)
  refine Row.wpPh_load rfl rfl 26 _ rfl ⟨w.heap.size, 121, none⟩ rfl (T.flash.map I) _ (fun p => lies_at (S1.out.step p.is).blk 121 8 _ C.out.flash) Try.underlying26 rfl (by rw [List.length_map, L1.out.fl]; exact info8) ?_
  (refine Ph.wpPh_calm rfl (fun K hK => ?_)
   go_simp
   refine hK _ ?_
   clear hK K)
  refine Row.wpPh_load rfl rfl 26 _ rfl ⟨w.heap.size + 1, 121, none⟩ rfl (U.flash.map I) _ (fun p => lies_at (S2.out.step p.is).blk 121 8 _ D.out.flash) Try.underlying26 rfl (by rw [List.length_map, L2.out.fl]; exact info8) ?_
  refine Row.wpPh_eql 26 _ _ _ rfl rfl rfl (T.flash.map I).toArray (U.flash.map I).toArray rfl rfl guard8 b7 E7.out ?_
  cases b7
  · repeat
      (refine Ph.wpPh_calm rfl (fun K hK => ?_)
       go_simp
       refine hK _ ?_
       clear hK K)
    refine Ph.wpPh_nil ?_
    intro w2 hb2
    have B2 : Hid (Below w.heap.size w w2) := Below.trans S1.out.bel (Below.mono hb2 S1.out.bel.size)
    clear hb2 hne q104 q113 q114 q115 r104 r113 r114 r115
    go_wp2
    go_ret
    exact ⟨ret_bool (decide_eq_false (fun q => of_decide_eq_false V7.out (by rw [q]))).symm, B2.out⟩
  iterate 2
    (refine Ph.wpPh_calm rfl (fun K hK => ?_)
     go_simp
     refine hK _ ?_
     clear hK K)
  refine Row.wpPh_load rfl rfl 31 _ rfl ⟨w.heap.size, 0, none⟩ rfl cs.toList _ (fun p => Row.lies_of_block (S1.out.step p.is).blk) Try.underlying31 rfl (by rw [Array.length_toList, C.out.size]; exact infoT) ?_
  (refine Ph.wpPh_calm rfl (fun K hK => ?_)
   go_simp
   refine ⟨_, fun p => Row.Old.call (F81.out p), hK _ ?_⟩
   clear hK K)
  refine Row.wpPh_load rfl rfl 31 _ rfl ⟨w.heap.size + 1, 0, none⟩ rfl ds.toList _ (fun p => Row.lies_of_block (S2.out.step p.is).blk) Try.underlying31 rfl (by rw [Array.length_toList, D.out.size]; exact infoT) ?_
  (refine Ph.wpPh_calm rfl (fun K hK => ?_)
   go_simp
   refine ⟨_, fun p => Row.Old.call (F82.out p), hK _ ?_⟩
   clear hK K)
  refine Row.wpPh_eql 58 _ _ _ rfl rfl rfl ((single T).map I).toArray ((single U).map I).toArray rfl rfl guard7 b8 E8.out ?_
  cases b8
  · repeat
      (refine Ph.wpPh_calm rfl (fun K hK => ?_)
       go_simp
       refine hK _ ?_
       clear hK K)
    refine Ph.wpPh_nil ?_
    intro w2 hb2
    have B2 : Hid (Below w.heap.size w w2) := Below.trans S1.out.bel (Below.mono hb2 S1.out.bel.size)
    clear hb2 hne q104 q113 q114 q115 r104 r113 r114 r115
    go_wp2
    go_ret
    exact ⟨ret_bool (decide_eq_false (fun q => of_decide_eq_false V8.out (by rw [q]))).symm, B2.out⟩
  iterate 2
    (refine Ph.wpPh_calm rfl (fun K hK => ?_)
     go_simp
     refine hK _ ?_
     clear hK K)
  refine Ph.wpPh_nil ?_
  intro w2 hb2
  have B2 : Hid (Below w.heap.size w w2) := Below.trans S1.out.bel (Below.mono hb2 S1.out.bel.size)
  clear hb2 hne q104 q113 q114 q115 r104 r113 r114 r115
  go_wp2
  go_ret
  exact ⟨ret_bool (decide_eq_true (tab_eq (of_decide_eq_true V1.out) (GD.out.1 (of_decide_eq_true V2.out)) (of_decide_eq_true V3.out) (of_decide_eq_true V4.out) (of_decide_eq_true V5.out) (of_decide_eq_true V6.out) (of_decide_eq_true V7.out) (of_decide_eq_true V8.out))).symm, B2.out⟩
end Go.Proofs.Ytpofccenoobojaa.Same
