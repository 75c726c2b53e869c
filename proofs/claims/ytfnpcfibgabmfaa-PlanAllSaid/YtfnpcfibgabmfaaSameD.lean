/- The contracts of table.bits, single, sameDetector and of sameList at detectors. -/
import Derived.Test.YtfnpcfibgabmfaaRows
import Derived.Test.YtfnpcfibgabmfaaSameC
import Derived.Test.YtfnpcfibgabmfaaMayD
import Derived.Test.YtfnpcfibgabmfaaSk
import Derived.Test.YtfnpcfibgabmfaaQB
import Derived.StillTailTactics
import Derived.Deep.Cut
namespace Go.Proofs.Ytfnpcfibgabmfaa.Same
open Go.ChangeShapes Go.WideShapes Go.ChangeAt Go.RowKit
open Tab
open May (ret_bool chain take_succ' infoP infoG infoD infoR infoB row_new St)
set_option linter.unusedVariables false
set_option linter.unusedSimpArgs false
theorem info4 : (Try.prog.info? 119).map (·.size) = some 4 := by kernel_rfl
theorem info7 : (Try.prog.info? 101).map (·.size) = some 7 := by kernel_rfl
theorem below_setRow {B : Nat} {a w : World} (h : Below B a w) {g : Nat} (hg : B ≤ g) (cs : Array Value) : Below B a (w.setRow g cs) :=
  h.trans ⟨rfl, rfl, rfl, by simp [World.setRow], fun j hj => setRow_other _ _ _ _ (by omega)⟩
set_option maxRecDepth 10000 in
set_option maxHeartbeats 1000000 in
theorem bits_any (d : Det) (w : World) :
    Calls Try.prog 95 #[.agg d.cells.toArray] w fun e w' => e = .returned (.agg (bitsOf d).toArray) ∧ Below w.heap.size w w' := by
  obtain ⟨phase, on, off, delay, extend, maxOn, maxOff⟩ := d
  show Calls Try.prog 95 #[.agg #[I phase, F on, F off, F delay, F extend, I maxOn, I maxOff]] w _
  have hb := Secs.bits_call
  go_enter Try.func95, Try.ntmps95
  go_wp2_with fail
  refine QB.region_tail 13 (by kernel_rfl) (by kernel_rfl) ?_
  simp only [List.take_succ_cons, List.take_zero, List.drop_succ_cons, List.drop_zero]
  repeat still_step
  refine wpStill_nil ?_
  refine wpList_store_row rfl 119 _ _ rfl (w.heap.size + 1) (bitsOf ⟨phase, on, off, delay, extend, maxOn, maxOff⟩).toArray rfl rfl 119 #[.int .u64 0, .int .u64 0, .int .u64 0, .int .u64 0] (heap_alloc2_new w _ _) info4 rfl (by simp [bitsOf, Value.oneCell']) ?_
  have hbl : Below w.heap.size w (World.setRow (((w.alloc (.cells #[I phase, F on, F off, F delay, F extend, I maxOn, I maxOff] 44)).alloc (.cells #[.int .u64 0, .int .u64 0, .int .u64 0, .int .u64 0] 119)).drew) (w.heap.size + 1) (bitsOf ⟨phase, on, off, delay, extend, maxOn, maxOff⟩).toArray) :=
    below_setRow (((Below.refl _ _).alloc (Nat.le_refl _) _).alloc (by simp) _).drew (by omega) _
  have hbk : (World.setRow (((w.alloc (.cells #[I phase, F on, F off, F delay, F extend, I maxOn, I maxOff] 44)).alloc (.cells #[.int .u64 0, .int .u64 0, .int .u64 0, .int .u64 0] 119)).drew) (w.heap.size + 1) (bitsOf ⟨phase, on, off, delay, extend, maxOn, maxOff⟩).toArray).heap[w.heap.size + 1]? = some (.cells (bitsOf ⟨phase, on, off, delay, extend, maxOn, maxOff⟩).toArray 119 (0, 0)) :=
    setRow_heap _ _ _ _ _ _ (heap_alloc2_new w _ _)
  generalize World.setRow _ _ _ = w3 at hbl hbk ⊢
  have HB := Lib.hid hbl
  have HK := Lib.hid hbk
  clear hbl hbk hb
  go_wp2_with fail
  (try simp only [Exit.inBlock, Exit.then])
  refine bodyPost_ret (v := .agg (bitsOf ⟨phase, on, off, delay, extend, maxOn, maxOff⟩).toArray) ?_ rfl ⟨rfl, HB.out⟩
  exact results_cell_row rfl _ _ (w.heap.size + 1) 119 _ (0, 0) _ rfl HK.out Try.underlying119 rfl info4
set_option maxRecDepth 10000 in
set_option maxHeartbeats 1000000 in
theorem single_any (T : Tab) (h : Hd) (w : World) (k : IsTab w h T) :
    Calls Try.prog 71 #[.agg (T.cells h).toArray] w fun e w' => e = .returned (.agg ((single T).map I).toArray) ∧ Below w.heap.size w w' := by
  have C := Lib.hid (cells_ok k)
  generalize (T.cells h).toArray = cs at C ⊢
  have hsz := C.out.size
  have S0 := Lib.hid (St.box (cs := cs) k)
  clear k
  go_enter Try.func71, Try.ntmps71
  go_upto_region 1 with fail
  have hz : (w.alloc (.cells cs 33)).heap.size = w.heap.size + 1 := by simp
  have HZ := Lib.hid hz
  generalize hw1 : w.alloc (.cells cs 33) = w1 at S0 HZ ⊢
  clear hw1 hsz hz
  have hb1 : Below w1.heap.size w1 (w1.alloc (.cells #[.int .i64 0, .int .i64 0, .int .i64 0, .int .i64 0, .int .i64 0, .int .i64 0, .int .i64 0] 101)) := (Below.refl _ _).alloc (Nat.le_refl _) _
  have S1 := Lib.hid (S0.out.step hb1)
  have hg1 : (w1.alloc (.cells #[.int .i64 0, .int .i64 0, .int .i64 0, .int .i64 0, .int .i64 0, .int .i64 0, .int .i64 0] 101)).heap[w.heap.size + 1]? = some (.cells #[.int .i64 0, .int .i64 0, .int .i64 0, .int .i64 0, .int .i64 0, .int .i64 0, .int .i64 0] 101 (0, 0)) := by rw [← HZ.out]; exact heap_alloc_new w1 _
  have HG := Lib.hid hg1
  generalize w1.alloc (.cells #[.int .i64 0, .int .i64 0, .int .i64 0, .int .i64 0, .int .i64 0, .int .i64 0, .int .i64 0] 101) = w2 at S1 HG ⊢
  clear hb1 hg1 S0 HZ
  have c116 := S1.out.cell C.out.extend
  have c117 := S1.out.cell C.out.budget
  have c118 := S1.out.cell C.out.start
  have c119 := S1.out.cell C.out.revert
  have c120 := S1.out.cell C.out.least
  have c129 := S1.out.cell C.out.window
  have c130 := S1.out.cell C.out.share
  go_wp2_with (refine wpList_store_row rfl 101 _ _ rfl (w.heap.size + 1) ((single T).map I).toArray rfl rfl 101 _ HG.out info7 rfl (by simp [single, Value.oneCell']) ?_)
  have hbl : Below w.heap.size w (w2.setRow (w.heap.size + 1) ((single T).map I).toArray) := below_setRow S1.out.bel (by omega) _
  have hbk := setRow_heap w2 (w.heap.size + 1) _ ((single T).map I).toArray _ _ HG.out
  generalize w2.setRow (w.heap.size + 1) ((single T).map I).toArray = w3 at hbl hbk ⊢
  have HB := Lib.hid hbl
  have HK := Lib.hid hbk
  clear hbl hbk c116 c117 c118 c119 c120 c129 c130
  go_wp2_with fail
  (try simp only [Exit.inBlock, Exit.then])
  refine bodyPost_ret (v := .agg ((single T).map I).toArray) ?_ rfl ⟨rfl, HB.out⟩
  exact results_cell_row rfl _ _ (w.heap.size + 1) 101 _ (0, 0) _ rfl HK.out Try.underlying101 rfl info7
set_option maxRecDepth 10000 in
set_option maxHeartbeats 4000000 in
theorem detv_any (d e : Det) (w : World) :
    Calls Try.prog 66 #[.agg d.cells.toArray, .agg e.cells.toArray] w fun r w' => r = .returned (.bool (decide (d = e))) ∧ Below w.heap.size w w' := by
  have L1 : Hid (Lies ((w.alloc (.cells d.cells.toArray 44)).alloc (.cells e.cells.toArray 44)) ⟨w.heap.size, 0, none⟩ d.cells) := (Row.lies_new w d.cells.toArray 44).below ((Below.refl _ _).alloc (Nat.le_refl _) _)
  have L2 : Hid (Lies ((w.alloc (.cells d.cells.toArray 44)).alloc (.cells e.cells.toArray 44)) ⟨w.heap.size + 1, 0, none⟩ e.cells) := by
    have := Row.lies_new (w.alloc (.cells d.cells.toArray 44)) e.cells.toArray 44
    rwa [show (w.alloc (.cells d.cells.toArray 44)).heap.size = w.heap.size + 1 by simp] at this
  have HB : Hid (Below w.heap.size w ((w.alloc (.cells d.cells.toArray 44)).alloc (.cells e.cells.toArray 44))) := ((Below.refl _ _).alloc (Nat.le_refl _) _).alloc (by simp) _
  go_enter Try.func66, Try.ntmps66
  go_wp2_with fail
  generalize (w.alloc (.cells d.cells.toArray 44)).alloc (.cells e.cells.toArray 44) = w1 at L1 L2 HB ⊢
  have hne : Nonempty (Ph.S (Row.Old w1)) := ⟨⟨0, w1, Below.refl _ _⟩⟩
  have q00 : ∀ p : Ph.S (Row.Old w1), p.world.cell? ⟨w.heap.size, 0, none⟩ = some (I d.phase) := fun p => by have := (L1.out.below p.is) 0 _ rfl; rwa [Addr.add_mid, Nat.zero_add] at this
  have q05 : ∀ p : Ph.S (Row.Old w1), p.world.cell? ⟨w.heap.size, 5, none⟩ = some (I d.maxOn) := fun p => by have := (L1.out.below p.is) 5 _ rfl; rwa [Addr.add_mid, Nat.zero_add] at this
  have q06 : ∀ p : Ph.S (Row.Old w1), p.world.cell? ⟨w.heap.size, 6, none⟩ = some (I d.maxOff) := fun p => by have := (L1.out.below p.is) 6 _ rfl; rwa [Addr.add_mid, Nat.zero_add] at this
  have q10 : ∀ p : Ph.S (Row.Old w1), p.world.cell? ⟨w.heap.size + 1, 0, none⟩ = some (I e.phase) := fun p => by have := (L2.out.below p.is) 0 _ rfl; rwa [Addr.add_mid, Nat.zero_add] at this
  have q15 : ∀ p : Ph.S (Row.Old w1), p.world.cell? ⟨w.heap.size + 1, 5, none⟩ = some (I e.maxOn) := fun p => by have := (L2.out.below p.is) 5 _ rfl; rwa [Addr.add_mid, Nat.zero_add] at this
  have q16 : ∀ p : Ph.S (Row.Old w1), p.world.cell? ⟨w.heap.size + 1, 6, none⟩ = some (I e.maxOff) := fun p => by have := (L2.out.below p.is) 6 _ rfl; rwa [Addr.add_mid, Nat.zero_add] at this
  refine Ph.wp_region_ph (Row.Old w1) [] (by kernel_rfl) (by kernel_rfl) (Row.Old.drew _) ?_
  by_cases h0 : d.phase = e.phase
  rotate_left
  · have E0 := Lib.hid h0
    have hb0 : (d.phase == e.phase) = false := by simpa using h0
    clear h0
    repeat
      (refine Ph.wpPh_calm rfl (fun K hK => ?_)
       go_simp
       refine hK _ ?_
       clear hK K)

    refine Ph.wpPh_nil ?_
    intro w2 hb2
    have B2 : Hid (Below w.heap.size w w2) := Below.trans HB.out (Below.mono hb2 HB.out.size)
    clear hb2 hne q00 q05 q06 q10 q15 q16
    go_wp2
    go_ret
    exact ⟨ret_bool (decide_eq_false (fun q => E0.out (by rw [q]))).symm, B2.out⟩
  have E0 := Lib.hid h0
  have hb0 : (d.phase == e.phase) = true := by simpa using h0
  clear h0
  by_cases h1 : d.maxOn = e.maxOn
  rotate_left
  · have E1 := Lib.hid h1
    have hb1 : (d.maxOn == e.maxOn) = false := by simpa using h1
    clear h1
    repeat
      (refine Ph.wpPh_calm rfl (fun K hK => ?_)
       go_simp
       refine hK _ ?_
       clear hK K)

    refine Ph.wpPh_nil ?_
    intro w2 hb2
    have B2 : Hid (Below w.heap.size w w2) := Below.trans HB.out (Below.mono hb2 HB.out.size)
    clear hb2 hne q00 q05 q06 q10 q15 q16
    go_wp2
    go_ret
    exact ⟨ret_bool (decide_eq_false (fun q => E1.out (by rw [q]))).symm, B2.out⟩
  have E1 := Lib.hid h1
  have hb1 : (d.maxOn == e.maxOn) = true := by simpa using h1
  clear h1
  by_cases h2 : d.maxOff = e.maxOff
  rotate_left
  · have E2 := Lib.hid h2
    have hb2 : (d.maxOff == e.maxOff) = false := by simpa using h2
    clear h2
    repeat
      (refine Ph.wpPh_calm rfl (fun K hK => ?_)
       go_simp
       refine hK _ ?_
       clear hK K)

    refine Ph.wpPh_nil ?_
    intro w2 hb2
    have B2 : Hid (Below w.heap.size w w2) := Below.trans HB.out (Below.mono hb2 HB.out.size)
    clear hb2 hne q00 q05 q06 q10 q15 q16
    go_wp2
    go_ret
    exact ⟨ret_bool (decide_eq_false (fun q => E2.out (by rw [q]))).symm, B2.out⟩
  have E2 := Lib.hid h2
  have hb2 : (d.maxOff == e.maxOff) = true := by simpa using h2
  clear h2
  iterate 20
    (refine Ph.wpPh_calm rfl (fun K hK => ?_)
     go_simp
     refine hK _ ?_
     clear hK K)

  refine Row.wpPh_load rfl rfl 44 _ rfl ⟨w.heap.size, 0, none⟩ rfl d.cells _ (fun p => L1.out.below p.is) Try.underlying44 rfl infoD ?_
  (refine Ph.wpPh_calm rfl (fun K hK => ?_)
   go_simp
   refine ⟨_, fun p => Row.Old.call (bits_any d _), hK _ ?_⟩
   clear hK K)
  refine Row.wpPh_load rfl rfl 44 _ rfl ⟨w.heap.size + 1, 0, none⟩ rfl e.cells _ (fun p => L2.out.below p.is) Try.underlying44 rfl infoD ?_
  (refine Ph.wpPh_calm rfl (fun K hK => ?_)
   go_simp
   refine ⟨_, fun p => Row.Old.call (bits_any e _), hK _ ?_⟩
   clear hK K)
  refine Row.wpPh_eql 119 _ _ _ rfl rfl rfl (bitsOf d).toArray (bitsOf e).toArray rfl rfl guard4 _ (bits_eqs d e) ?_
  (refine Ph.wpPh_calm rfl (fun K hK => ?_)
   go_simp
   refine hK _ ?_
   clear hK K)
  (refine Ph.wpPh_calm rfl (fun K hK => ?_)
   go_simp
   refine hK _ ?_
   clear hK K)
  refine Ph.wpPh_nil ?_
  intro w2 hb2
  have B2 : Hid (Below w.heap.size w w2) := Below.trans HB.out (Below.mono hb2 HB.out.size)
  clear hb2 hne q00 q05 q06 q10 q15 q16
  go_wp2
  go_ret
  refine ⟨ret_bool ?_, B2.out⟩
  obtain ⟨a0, a1, a2, a3, a4, a5, a6⟩ := d
  obtain ⟨b0, b1, b2, b3, b4, b5, b6⟩ := e
  have e0 : a0 = b0 := E0.out
  have e1 : a5 = b5 := E1.out
  have e2 : a6 = b6 := E2.out
  subst e0 e1 e2
  simp
set_option maxHeartbeats 1000000 in
theorem dets_any (a b : Option Addr) (ca cb : Nat) (l m : List Det) (w : World) (h : RowOf 7 Det.cells w ⟨a, ca⟩ l) (h' : RowOf 7 Det.cells w ⟨b, cb⟩ m) :
    Calls Try.prog 65 #[.slice a l.length ca, .slice b m.length cb, .func (.func 66) #[] #[]] w fun e w' => e = .returned (.bool (decide (l = m))) ∧ Below w.heap.size w w' := by
  have h1 := h.len
  have h2 := h'.len
  unfold maxLen at h1 h2
  have Hr := Lib.hid h
  have Hr' := Lib.hid h'
  clear h h'
  by_cases hlen : l.length = m.length
  · have HL := Lib.hid hlen
    have hd : ((l.length : Int) != (m.length : Int)) = false := by rw [bne_eq_false_iff_eq]; omega
    go_enter Try.func65, Try.ntmps65
    go_wp2
    go_loopw [16] (fun i wr => ∃ k : Nat, k ≤ l.length ∧ i = .int .i64 k ∧ l.take k = m.take k ∧ Below w.heap.size w wr) (fun i _ => l.length - (intOf i).toNat)
    case atStart => exact ⟨0, by omega, rfl, rfl, Below.refl _ _⟩
    case round =>
      obtain ⟨k, hk, rfl, hall, hbel⟩ := hrel
      have Hall := Lib.hid hall
      have Hb := Lib.hid hbel
      clear hall hbel
      by_cases hlt : k < l.length
      · have hv := List.getElem?_eq_getElem hlt
        have hu := List.getElem?_eq_getElem (show k < m.length by omega)
        generalize l[k] = v at hv
        generalize m[k]'(show k < m.length by omega) = u at hu
        obtain ⟨x, hx, hc⟩ := (Hr.out.below Hb.out).at hv
        obtain rfl : a = some x := hx
        obtain ⟨y, hy, hc'⟩ := (Hr'.out.below Hb.out).at hu
        obtain rfl : b = some y := hy
        have HV := Lib.hid hv
        have HU := Lib.hid hu
        have HC := Lib.hid hc
        have HC' := Lib.hid hc'
        clear hv hu hc hc'
        go_wp2_with (first | (refine Row.wpList_load_lies rfl 44 _ rfl (x.add (k * 7)) rfl v.cells _ HC.out Try.underlying44 rfl infoD ?_) | (refine Row.wpList_store_new rfl 44 _ _ rfl _ _ v.cells.toArray rfl rfl rfl infoD rfl v.one ?_))
        have B1 : Hid (Below wr.heap.size wr (wr.alloc (.cells v.cells.toArray 44))) := (Below.refl _ _).alloc (Nat.le_refl _) _
        have L1 : Hid (Lies (wr.alloc (.cells v.cells.toArray 44)) ⟨wr.heap.size, 0, none⟩ v.cells) := Row.lies_new _ _ _
        have L2 : Hid (Lies (wr.alloc (.cells v.cells.toArray 44)) (y.add (k * 7)) u.cells) := HC'.out.below B1.out
        generalize hw1 : wr.alloc (.cells v.cells.toArray 44) = w1 at B1 L1 L2 ⊢
        clear hw1
        have hkm : k < m.length := by omega
        have hne : Nonempty (Ph.S (Row.Old w1)) := ⟨⟨0, w1, Below.refl _ _⟩⟩
        refine Ph.wp_region_ph (Row.Old w1) [] (by kernel_rfl) (by kernel_rfl) (Row.Old.drew _) ?_
        repeat
          first
            | (refine Row.wpPh_load rfl rfl 44 _ rfl ⟨wr.heap.size, 0, none⟩ rfl v.cells _ (fun p => L1.out.below p.is) Try.underlying44 rfl infoD ?_)
            | (refine Row.wpPh_load rfl rfl 44 _ rfl (y.add (k * 7)) rfl u.cells _ (fun p => L2.out.below p.is) Try.underlying44 rfl infoD ?_)
            | (refine Ph.wpPh_calm rfl (fun K hK => ?_)
               go_simp
               first
                 | (refine hK _ ?_; clear hK K)
                 | (refine ⟨_, fun p => Row.Old.call (detv_any v u _), hK _ ?_⟩; clear hK K))
        refine Ph.wpPh_nil ?_
        intro w2 hb2
        clear hne
        have B2 := Lib.hid (Below.trans Hb.out ((Below.trans B1.out (Below.mono hb2 B1.out.size)).mono Hb.out.size))
        clear hb2
        by_cases hvu : v = u
        · have HE := Lib.hid hvu
          rw [decide_eq_true hvu]
          clear hvu
          go_wp2
          go_roundw
          case rel => exact ⟨k + 1, by omega, by go_num, eq_step HV.out HU.out Hall.out HE.out, B2.out⟩
          case measure => simp [intOf]; omega
        · have HE := Lib.hid (show ¬ l = m from eq_break HV.out HU.out hvu)
          rw [decide_eq_false hvu]
          clear hvu
          go_wp2
          go_ret
          exact ⟨ret_bool (decide_eq_false HE.out).symm, B2.out⟩
      · have HE := Lib.hid (show l = m from eq_end Hall.out HL.out hlt)
        go_wp2
        go_ret
        exact ⟨ret_bool (decide_eq_true HE.out).symm, Hb.out⟩
  · have HL := Lib.hid (show ¬ l = m from fun e => hlen (by rw [e]))
    have hd : ((l.length : Int) != (m.length : Int)) = true := by rw [bne_iff_ne]; omega
    go_enter Try.func65, Try.ntmps65
    go_wp2
    go_ret
    exact ⟨ret_bool (decide_eq_false HL.out).symm, Below.refl _ _⟩
end Go.Proofs.Ytfnpcfibgabmfaa.Same
