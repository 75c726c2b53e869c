/- The contract of the document's Following. -/
import Derived.Test.YtfnpcfibgabmfaaRows
import Derived.Test.YtfnpcfibgabmfaaPlanD
namespace Go.Proofs.Ytfnpcfibgabmfaa.PlanG
open Go.ChangeShapes Go.WideShapes Go.ChangeAt Go.RowKit
open Tab PlaceM PlanM PlanD
open May (infoT)
set_option linter.unusedVariables false
set_option linter.unusedSimpArgs false
set_option maxRecDepth 100000 in
set_option maxHeartbeats 4000000 in
theorem rfollow_any (T : Tab) (h : Hd) (g want : Int) (w : World) (ht : IsTab w h T) (sm : Few T) :
    Calls Try.prog 32 #[.agg (T.cells h).toArray, .int .i64 g, .int .i64 want] w fun e w' => e = .returned (.int .i64 (followS T g want)) ∧ Below w.heap.size w w' := by
  have hsz := (cells_ok ht).size
  have C := Lib.hid (cells_ok ht)
  have IA : Hid ((Try.prog.info? 33).map (·.size) = some (T.cells h).length) := Lib.hid (by rw [List.size_toArray] at hsz; rw [hsz]; exact infoT)
  have MB : Hid (∀ z W, Below w.heap.size w W → Calls Try.prog 26 #[.agg (T.cells h).toArray, .int .i64 z] W fun e w' => e = .returned (.int .i64 (membS T z : Nat)) ∧ Below W.heap.size W w') := Lib.hid (fun z W hb => rmembers_any T h z W (ht.below hb) sm)
  obtain ⟨gs, hgd, hgr⟩ := ht.groups
  have Hgl := Lib.hid (show T.groups.length = gs.length by rw [← hgd, List.length_map])
  have K : gs.length ≤ 1000 := by have := Hgl.out; have := sm.groups; omega
  have A0 : Hid (Below w.heap.size w (w.alloc (.cells (T.cells h).toArray 33))) := Lib.hid ((Below.refl _ _).alloc (Nat.le_refl _) _)
  have A1 : Hid ((w.alloc (.cells (T.cells h).toArray 33)).heap[w.heap.size]? = some (.cells (T.cells h).toArray 33 (0, 0))) := Lib.hid (heap_alloc_new _ _)
  obtain ⟨res, hres⟩ : ∃ r, followS T g want = r := ⟨_, rfl⟩
  have NS : Hid (res = followS T g want) := Lib.hid hres.symm
  rw [hres]
  clear ht hgr hgd hres sm
  generalize T.cells h = c at *
  go_enter Try.func32, Try.ntmps32
  go_upto_region 1 with fail
  generalize w.alloc (.cells c.toArray 33) = u at A0 A1 ⊢
  clear hsz
  have q104 : u.cell? ⟨w.heap.size, 104, none⟩ = some (.slice h.g.a gs.length h.g.cap) := by
    rw [cell_of_row _ _ _ _ _ _ A1.out, C.out.g, Hgl.out]
  go_upto_region 2 with fail
  clear q104
  by_cases hg0 : g < 0
  · obtain ⟨f, hf⟩ : ∃ f : Int, f = (gs.length : Int) - 1 := ⟨_, rfl⟩
    have FE : Hid (fromG T g = f) := Lib.hid (by unfold fromG; rw [if_neg (by omega), hf, Hgl.out])
    have FB : Hid (0 < gs.length → 0 ≤ f ∧ f < gs.length) := Lib.hid (fun _ => by omega)
    have hfs := hf.symm
    have HFS := Lib.hid hf
    clear hf
    go_wp2_with fail
    clear hfs
    go_loopw [8] (fun i wr => ∃ j : Nat, j ≤ gs.length ∧ i = .int .i64 ((j : Int) + 1) ∧ (∀ i, i < j → folC T g want i = false) ∧ Below w.heap.size w wr ∧ wr.heap[w.heap.size]? = some (.cells c.toArray 33 (0, 0))) (fun i _ => gs.length + 1 - (intOf i).toNat)
    case atStart => exact ⟨0, by omega, rfl, (fun i h => by omega), A0.out, A1.out⟩
    case round =>
      obtain ⟨j, hj, rfl, hall, hbel, hblk⟩ := hrel
      have HA := Lib.hid hall
      have HB := Lib.hid hbel
      have LT : Hid (Lies wr ⟨w.heap.size, 0, none⟩ c) := Lib.hid (by have := Row.lies_of_block hblk; simpa using this)
      have HK := Lib.hid hblk
      clear hall hbel hblk
      by_cases hjl : j < gs.length
      · obtain ⟨kf, hkf, hkl⟩ : ∃ kf : Nat, f = (kf : Int) ∧ kf < gs.length := by
          have := FB.out (by omega)
          exact ⟨f.toNat, by omega, by omega⟩
        have htm : ((kf : Int) + ((j : Int) + 1)).tmod (gs.length : Int) = ((kf : Int) + ((j : Int) + 1)) % (gs.length : Int) := Int.tmod_eq_emod_of_nonneg (by omega)
        have HZ : Hid (((kf : Int) + ((j : Int) + 1)) % (gs.length : Int) = (fromG T g + 1 + j) % T.groups.length) := Lib.hid (by rw [FE.out, hkf, Hgl.out]; congr 1; omega)
        have hz0 : 0 ≤ ((kf : Int) + ((j : Int) + 1)) % (gs.length : Int) := Int.emod_nonneg _ (by omega)
        have hz1 : ((kf : Int) + ((j : Int) + 1)) % (gs.length : Int) < (gs.length : Int) := Int.emod_lt_of_pos _ (by omega)
        generalize hzz : ((kf : Int) + ((j : Int) + 1)) % (gs.length : Int) = z at htm HZ hz0 hz1
        clear hzz
        have HKF := Lib.hid hkf
        subst hkf
        have hn0 : (gs.length : Int) ≠ 0 := by omega
        go_wp2_with (refine Row.wpList_load_g 33 _ rfl (by first | rfl | go_simp) ⟨w.heap.size, 0, none⟩ rfl c _ LT.out Try.underlying33 rfl IA.out ?_)
        refine (MB.out z _ HB.out).mono ?_
        rintro e u2 ⟨rfl, hb⟩
        have HB2 : Hid (Below w.heap.size w u2) := Lib.hid (HB.out.trans (hb.mono HB.out.size))
        have HK2 : Hid (u2.heap[w.heap.size]? = some (.cells c.toArray 33 (0, 0))) := Lib.hid ((hb.block _ (Array.getElem?_eq_some_iff.1 HK.out).1).trans HK.out)
        have FC : Hid (folC T g want j = decide (bits .and .i64 (membS T z : Nat) want ≠ 0)) := Lib.hid (by unfold folC; rw [HZ.out])
        clear hb LT HK htm
        generalize ((membS T z : Nat) : Int) = m at FC ⊢
        by_cases hm : bits .and .i64 m want = 0
        · have FC2 : Hid (folC T g want j = false) := Lib.hid (by rw [FC.out, hm]; rfl)
          go_wp2
          go_roundw
          case rel => exact ⟨j + 1, by omega, by go_num, (fun i hi => by
            by_cases e2 : i = j
            · subst e2; exact FC2.out
            · exact HA.out i (by omega)), HB2.out, HK2.out⟩
          case measure => simp [intOf]; omega
        · have FC2 : Hid (folC T g want j = true) := Lib.hid (by rw [FC.out]; exact decide_eq_true hm)
          have HF : Hid (z = res) := Lib.hid (by rw [NS.out, HZ.out]; exact (follow_hit (by rw [Hgl.out]; exact hjl) FC2.out HA.out).symm)
          go_wp2
          go_ret
          exact ⟨ret_int HF.out, HB2.out⟩
      · have HF : Hid (-1 = res) := Lib.hid (by rw [NS.out]; exact (follow_miss (fun i hi => HA.out i (by rw [Hgl.out] at hi; omega))).symm)
        go_wp2
        go_ret
        exact ⟨ret_int HF.out, HB.out⟩
  by_cases hg1 : (gs.length : Int) ≤ g
  · obtain ⟨f, hf⟩ : ∃ f : Int, f = (gs.length : Int) - 1 := ⟨_, rfl⟩
    have FE : Hid (fromG T g = f) := Lib.hid (by have := Hgl.out; unfold fromG; rw [if_neg (by omega), hf, Hgl.out])
    have FB : Hid (0 < gs.length → 0 ≤ f ∧ f < gs.length) := Lib.hid (fun _ => by omega)
    have hfs := hf.symm
    have HFS := Lib.hid hf
    clear hf
    go_wp2_with fail
    clear hfs
    go_loopw [8] (fun i wr => ∃ j : Nat, j ≤ gs.length ∧ i = .int .i64 ((j : Int) + 1) ∧ (∀ i, i < j → folC T g want i = false) ∧ Below w.heap.size w wr ∧ wr.heap[w.heap.size]? = some (.cells c.toArray 33 (0, 0))) (fun i _ => gs.length + 1 - (intOf i).toNat)
    case atStart => exact ⟨0, by omega, rfl, (fun i h => by omega), A0.out, A1.out⟩
    case round =>
      obtain ⟨j, hj, rfl, hall, hbel, hblk⟩ := hrel
      have HA := Lib.hid hall
      have HB := Lib.hid hbel
      have LT : Hid (Lies wr ⟨w.heap.size, 0, none⟩ c) := Lib.hid (by have := Row.lies_of_block hblk; simpa using this)
      have HK := Lib.hid hblk
      clear hall hbel hblk
      by_cases hjl : j < gs.length
      · obtain ⟨kf, hkf, hkl⟩ : ∃ kf : Nat, f = (kf : Int) ∧ kf < gs.length := by
          have := FB.out (by omega)
          exact ⟨f.toNat, by omega, by omega⟩
        have htm : ((kf : Int) + ((j : Int) + 1)).tmod (gs.length : Int) = ((kf : Int) + ((j : Int) + 1)) % (gs.length : Int) := Int.tmod_eq_emod_of_nonneg (by omega)
        have HZ : Hid (((kf : Int) + ((j : Int) + 1)) % (gs.length : Int) = (fromG T g + 1 + j) % T.groups.length) := Lib.hid (by rw [FE.out, hkf, Hgl.out]; congr 1; omega)
        have hz0 : 0 ≤ ((kf : Int) + ((j : Int) + 1)) % (gs.length : Int) := Int.emod_nonneg _ (by omega)
        have hz1 : ((kf : Int) + ((j : Int) + 1)) % (gs.length : Int) < (gs.length : Int) := Int.emod_lt_of_pos _ (by omega)
        generalize hzz : ((kf : Int) + ((j : Int) + 1)) % (gs.length : Int) = z at htm HZ hz0 hz1
        clear hzz
        have HKF := Lib.hid hkf
        subst hkf
        have hn0 : (gs.length : Int) ≠ 0 := by omega
        go_wp2_with (refine Row.wpList_load_g 33 _ rfl (by first | rfl | go_simp) ⟨w.heap.size, 0, none⟩ rfl c _ LT.out Try.underlying33 rfl IA.out ?_)
        refine (MB.out z _ HB.out).mono ?_
        rintro e u2 ⟨rfl, hb⟩
        have HB2 : Hid (Below w.heap.size w u2) := Lib.hid (HB.out.trans (hb.mono HB.out.size))
        have HK2 : Hid (u2.heap[w.heap.size]? = some (.cells c.toArray 33 (0, 0))) := Lib.hid ((hb.block _ (Array.getElem?_eq_some_iff.1 HK.out).1).trans HK.out)
        have FC : Hid (folC T g want j = decide (bits .and .i64 (membS T z : Nat) want ≠ 0)) := Lib.hid (by unfold folC; rw [HZ.out])
        clear hb LT HK htm
        generalize ((membS T z : Nat) : Int) = m at FC ⊢
        by_cases hm : bits .and .i64 m want = 0
        · have FC2 : Hid (folC T g want j = false) := Lib.hid (by rw [FC.out, hm]; rfl)
          go_wp2
          go_roundw
          case rel => exact ⟨j + 1, by omega, by go_num, (fun i hi => by
            by_cases e2 : i = j
            · subst e2; exact FC2.out
            · exact HA.out i (by omega)), HB2.out, HK2.out⟩
          case measure => simp [intOf]; omega
        · have FC2 : Hid (folC T g want j = true) := Lib.hid (by rw [FC.out]; exact decide_eq_true hm)
          have HF : Hid (z = res) := Lib.hid (by rw [NS.out, HZ.out]; exact (follow_hit (by rw [Hgl.out]; exact hjl) FC2.out HA.out).symm)
          go_wp2
          go_ret
          exact ⟨ret_int HF.out, HB2.out⟩
      · have HF : Hid (-1 = res) := Lib.hid (by rw [NS.out]; exact (follow_miss (fun i hi => HA.out i (by rw [Hgl.out] at hi; omega))).symm)
        go_wp2
        go_ret
        exact ⟨ret_int HF.out, HB.out⟩
  obtain ⟨f, hf⟩ : ∃ f, f = g := ⟨_, rfl⟩
  have FE : Hid (fromG T g = f) := Lib.hid (by have := Hgl.out; unfold fromG; rw [if_pos (by omega), hf])
  have FB : Hid (0 < gs.length → 0 ≤ f ∧ f < gs.length) := Lib.hid (fun _ => by omega)
  have HFG := Lib.hid hf
  go_wp2_with fail
  rw [show (Value.int .i64 g) = .int .i64 f by rw [hf]]
  clear hf
  go_loopw [8] (fun i wr => ∃ j : Nat, j ≤ gs.length ∧ i = .int .i64 ((j : Int) + 1) ∧ (∀ i, i < j → folC T g want i = false) ∧ Below w.heap.size w wr ∧ wr.heap[w.heap.size]? = some (.cells c.toArray 33 (0, 0))) (fun i _ => gs.length + 1 - (intOf i).toNat)
  case atStart => exact ⟨0, by omega, rfl, (fun i h => by omega), A0.out, A1.out⟩
  case round =>
    obtain ⟨j, hj, rfl, hall, hbel, hblk⟩ := hrel
    have HA := Lib.hid hall
    have HB := Lib.hid hbel
    have LT : Hid (Lies wr ⟨w.heap.size, 0, none⟩ c) := Lib.hid (by have := Row.lies_of_block hblk; simpa using this)
    have HK := Lib.hid hblk
    clear hall hbel hblk
    by_cases hjl : j < gs.length
    · obtain ⟨kf, hkf, hkl⟩ : ∃ kf : Nat, f = (kf : Int) ∧ kf < gs.length := by
        have := FB.out (by omega)
        exact ⟨f.toNat, by omega, by omega⟩
      have htm : ((kf : Int) + ((j : Int) + 1)).tmod (gs.length : Int) = ((kf : Int) + ((j : Int) + 1)) % (gs.length : Int) := Int.tmod_eq_emod_of_nonneg (by omega)
      have HZ : Hid (((kf : Int) + ((j : Int) + 1)) % (gs.length : Int) = (fromG T g + 1 + j) % T.groups.length) := Lib.hid (by rw [FE.out, hkf, Hgl.out]; congr 1; omega)
      have hz0 : 0 ≤ ((kf : Int) + ((j : Int) + 1)) % (gs.length : Int) := Int.emod_nonneg _ (by omega)
      have hz1 : ((kf : Int) + ((j : Int) + 1)) % (gs.length : Int) < (gs.length : Int) := Int.emod_lt_of_pos _ (by omega)
      generalize hzz : ((kf : Int) + ((j : Int) + 1)) % (gs.length : Int) = z at htm HZ hz0 hz1
      clear hzz
      have HKF := Lib.hid hkf
      subst hkf
      have hn0 : (gs.length : Int) ≠ 0 := by omega
      go_wp2_with (refine Row.wpList_load_g 33 _ rfl (by first | rfl | go_simp) ⟨w.heap.size, 0, none⟩ rfl c _ LT.out Try.underlying33 rfl IA.out ?_)
      refine (MB.out z _ HB.out).mono ?_
      rintro e u2 ⟨rfl, hb⟩
      have HB2 : Hid (Below w.heap.size w u2) := Lib.hid (HB.out.trans (hb.mono HB.out.size))
      have HK2 : Hid (u2.heap[w.heap.size]? = some (.cells c.toArray 33 (0, 0))) := Lib.hid ((hb.block _ (Array.getElem?_eq_some_iff.1 HK.out).1).trans HK.out)
      have FC : Hid (folC T g want j = decide (bits .and .i64 (membS T z : Nat) want ≠ 0)) := Lib.hid (by unfold folC; rw [HZ.out])
      clear hb LT HK htm
      generalize ((membS T z : Nat) : Int) = m at FC ⊢
      by_cases hm : bits .and .i64 m want = 0
      · have FC2 : Hid (folC T g want j = false) := Lib.hid (by rw [FC.out, hm]; rfl)
        go_wp2
        go_roundw
        case rel => exact ⟨j + 1, by omega, by go_num, (fun i hi => by
          by_cases e2 : i = j
          · subst e2; exact FC2.out
          · exact HA.out i (by omega)), HB2.out, HK2.out⟩
        case measure => simp [intOf]; omega
      · have FC2 : Hid (folC T g want j = true) := Lib.hid (by rw [FC.out]; exact decide_eq_true hm)
        have HF : Hid (z = res) := Lib.hid (by rw [NS.out, HZ.out]; exact (follow_hit (by rw [Hgl.out]; exact hjl) FC2.out HA.out).symm)
        go_wp2
        go_ret
        exact ⟨ret_int HF.out, HB2.out⟩
    · have HF : Hid (-1 = res) := Lib.hid (by rw [NS.out]; exact (follow_miss (fun i hi => HA.out i (by rw [Hgl.out] at hi; omega))).symm)
      go_wp2
      go_ret
      exact ⟨ret_int HF.out, HB.out⟩
end Go.Proofs.Ytfnpcfibgabmfaa.PlanG
