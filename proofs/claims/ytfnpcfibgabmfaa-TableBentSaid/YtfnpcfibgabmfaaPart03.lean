/- 9 texts in one file, in build order. -/
import Derived.Test.YtfnpcfibgabmfaaRows
import Derived.Test.YtfnpcfibgabmfaaPart02
import Derived.Deep.Cut
import Derived.Test.YtfnpcfibgabmfaaPart01
import Derived.OwnWalk
import Derived.Laws.CopyOwn
import Derived.LoopTactic
import Derived.OpenShut
import Derived.ChangeArms
import Derived.DeepKeys
set_option linter.unusedVariables false
set_option linter.unusedSimpArgs false
set_option linter.unusedSectionVars false
/- The contract of the document's May, at any table: it answers as table.May does. -/
namespace Go.Proofs.Ytfnpcfibgabmfaa.May
open Go.ChangeShapes Go.WideShapes Go.ChangeAt Go.RowKit
open Tab
set_option linter.unusedVariables false
set_option linter.unusedSimpArgs false

/-- The document's order. -/
def tabRmay (T : Tab) : Bool :=
  ((((allIn 9999 [T.extend, T.budget, T.start, T.revert, T.least] && allIn 2147483647 [T.window, T.share]) && allIn 255 T.conflict) && allIn 2 T.flash) && T.phases.all Ph.may)
theorem may_lens {T : Tab} (h : 4 < T.groups.length ∨ 16 < T.dets.length ∨ 4 < T.rails.length ∨ 4 < T.buses.length) : tabMay T = false := by
  unfold tabMay listMay
  rcases h with h | h | h | h
  · rw [decide_eq_false (p := (T.groups.length : Int) ≤ 4) (by omega)]; simp
  · rw [decide_eq_false (p := (T.dets.length : Int) ≤ 16) (by omega)]; simp
  · rw [decide_eq_false (p := (T.rails.length : Int) ≤ 4) (by omega)]; simp
  · rw [decide_eq_false (p := (T.buses.length : Int) ≤ 4) (by omega)]; simp
theorem may_group {T : Tab} {g : List Int × List Int} (h : g ∈ T.groups) (hg : groupMay g = false) : tabMay T = false := by
  have : T.groups.all groupMay = false := by rw [List.all_eq_false]; exact ⟨g, h, by simp [hg]⟩
  unfold tabMay listMay
  rw [this]; simp
theorem may_order {T : Tab} (h8 : T.phases.length = 8) (hg : ¬ 4 < T.groups.length) (hd : ¬ 16 < T.dets.length) (hr : ¬ 4 < T.rails.length) (hb : ¬ 4 < T.buses.length) (hall : T.groups.all groupMay = true) :
    tabMay T = (((tabRmay T && T.dets.all Det.may) && T.rails.all Rl.may) && T.buses.all Bs.may) := by
  unfold tabMay listMay tabRmay
  rw [hall, decide_eq_true (p := (T.phases.length : Int) ≤ 8) (by omega), decide_eq_true (p := (T.groups.length : Int) ≤ 4) (by omega), decide_eq_true (p := (T.dets.length : Int) ≤ 16) (by omega), decide_eq_true (p := (T.rails.length : Int) ≤ 4) (by omega), decide_eq_true (p := (T.buses.length : Int) ≤ 4) (by omega)]
  simp only [Bool.true_and]
  generalize T.phases.all Ph.may = p
  generalize T.dets.all Det.may = d
  generalize T.rails.all Rl.may = r
  generalize T.buses.all Bs.may = b
  generalize allIn 255 T.conflict = c
  generalize allIn 2 T.flash = f
  generalize allIn 9999 _ = x
  generalize allIn 2147483647 _ = y
  revert p d r b c f x y
  decide
theorem acc_step {α : Type} {f : α → Bool} {l : List α} {k : Nat} {v : α} {b c : Bool} (h : l[k]? = some v) (hv : f v = c) : (b && (l.take (k + 1)).all f) = ((b && (l.take k).all f) && c) := by
  rw [take_succ' l k v h, List.all_append]; simp [hv, Bool.and_assoc]
theorem acc_end {α : Type} {f : α → Bool} {l : List α} {k : Nat} {b : Bool} (h : ¬ k < l.length) : (b && (l.take k).all f) = (b && l.all f) := by
  rw [List.take_of_length_le (by omega)]

def GAll (l : List Gr) : Prop := l.all (fun v => groupMay v.data) = true
theorem GAll.step {l : List Gr} {k : Nat} {v : Gr} (h : l[k]? = some v) (hk : GAll (l.take k)) (hv : groupMay v.data = true) : GAll (l.take (k + 1)) := all_step (f := fun v : Gr => groupMay v.data) h hk hv
theorem GAll.fin {l : List Gr} {k : Nat} (hk : GAll (l.take k)) (h : ¬ k < l.length) : l.all (fun v => groupMay v.data) = true := all_end (f := fun v : Gr => groupMay v.data) hk h
theorem infoT : (Try.prog.info? 33).map (·.size) = some 131 := by kernel_rfl
set_option maxRecDepth 10000 in
set_option maxHeartbeats 4000000 in
theorem rmay_any (T : Tab) (h : Hd) (w : World) (k : IsTab w h T) :
    Calls Try.prog 14 #[.agg (T.cells h).toArray] w fun e w' => e = .returned (.bool (tabMay T)) ∧ Below w.heap.size w w' := by
  have C := Lib.hid (cells_ok k)
  have L8 := Lib.hid k.ph
  have Lc := Lib.hid k.cf
  have Lf := Lib.hid k.fl
  have Kd := (k.dets).len
  have Kr := (k.rails).len
  have Kb := (k.buses).len
  generalize (T.cells h).toArray = cs at C ⊢
  have hsz := C.out.size
  obtain ⟨gs, hgd, hgr⟩ := k.groups
  have Kg := hgr.1.len
  unfold maxLen at Kd Kr Kb Kg
  have Hgr := Lib.hid hgr
  clear hgr
  have S0 := Lib.hid (St.box (cs := cs) k)
  clear k
  have Hgd := Lib.hid hgd
  have hgl : T.groups.length = gs.length := by rw [← hgd, List.length_map]
  have Hgl := Lib.hid hgl
  clear hgd
  clear hgl
  go_enter Try.func14, Try.ntmps14
  go_upto_region 1 with fail
  generalize hw1 : w.alloc (.cells cs 33) = w1 at S0 ⊢
  clear hw1
  have c104 := S0.out.cell C.out.g
  rw [Hgl.out] at c104
  have c113 := S0.out.cell C.out.d
  have c114 := S0.out.cell C.out.r
  have c115 := S0.out.cell C.out.b
  clear hsz
  by_cases hG : 4 < gs.length
  · go_wp2
    go_ret
    exact ⟨ret_bool (may_lens (.inl (by rw [Hgl.out]; omega))).symm, S0.out.bel⟩
  by_cases hD : 16 < T.dets.length
  · go_wp2
    go_ret
    exact ⟨ret_bool (may_lens (.inr (.inl (by omega)))).symm, S0.out.bel⟩
  by_cases hR : 4 < T.rails.length
  · go_wp2
    go_ret
    exact ⟨ret_bool (may_lens (.inr (.inr (.inl (by omega))))).symm, S0.out.bel⟩
  by_cases hB : 4 < T.buses.length
  · go_wp2
    go_ret
    exact ⟨ret_bool (may_lens (.inr (.inr (.inr (by omega))))).symm, S0.out.bel⟩
  have HG := Lib.hid (show ¬ 4 < T.groups.length by rw [Hgl.out]; exact hG)
  have HD := Lib.hid hD
  have HR := Lib.hid hR
  have HB := Lib.hid hB
  have dG : decide ((4 : Int) < (gs.length : Int)) = false := decide_eq_false (by omega)
  have dD : decide ((16 : Int) < (T.dets.length : Int)) = false := decide_eq_false (by omega)
  have dR : decide ((4 : Int) < (T.rails.length : Int)) = false := decide_eq_false (by omega)
  have dB : decide ((4 : Int) < (T.buses.length : Int)) = false := decide_eq_false (by omega)
  clear hG hD hR hB
  go_upto_region 3 with fail
  clear c104 c113 c114 c115 dG dD dR dB
  go_cut [3] from 32 (fun t3 wx => t3 = .bool (((allIn 9999 [T.extend, T.budget, T.start, T.revert, T.least] && allIn 2147483647 [T.window, T.share]) && allIn 255 T.conflict) && allIn 2 T.flash) ∧ St w w.heap.size cs h T wx)
  case first =>
    have c116 := S0.out.cell C.out.extend
    have c117 := S0.out.cell C.out.budget
    have c118 := S0.out.cell C.out.start
    have c119 := S0.out.cell C.out.revert
    have c120 := S0.out.cell C.out.least
    go_wp2_with fail
    refine (times_any _ _ [T.extend, T.budget, T.start, T.revert, T.least] _ (row_new _ _ [T.extend, T.budget, T.start, T.revert, T.least] 5 rfl (by decide) _ rfl)).mono ?_
    rintro e w2 ⟨rfl, hw⟩
    have hb2 : Below w1.heap.size w1 w2 := hw ▸ (Below.refl _ _).alloc (Nat.le_refl _) _
    have S2 := Lib.hid (S0.out.step hb2)
    clear hb2 hw c116 c117 c118 c119 c120
    generalize hv : allIn 9999 [T.extend, T.budget, T.start, T.revert, T.least] = b1
    have V1 := Lib.hid hv
    clear hv
    cases b1
    · go_wp2_with fail
      go_meet
      exact ⟨by simp only [V1.out, Bool.true_and, Bool.false_and, Bool.and_false], S2.out⟩
    have c129 := S2.out.cell C.out.window
    have c130 := S2.out.cell C.out.share
    go_wp2_with fail
    refine (upto_any 2147483647 _ _ [T.window, T.share] _ (row_new _ _ [T.window, T.share] 2 rfl (by decide) _ rfl)).mono ?_
    rintro e w3 ⟨rfl, hw⟩
    have hb3 : Below w2.heap.size w2 w3 := hw ▸ (Below.refl _ _).alloc (Nat.le_refl _) _
    have S3 := Lib.hid (S2.out.step hb3)
    clear hb3 hw c129 c130
    generalize hv : allIn 2147483647 [T.window, T.share] = b2
    have V2 := Lib.hid hv
    clear hv
    cases b2
    · go_wp2_with fail
      go_meet
      exact ⟨by simp only [V1.out, V2.out, Bool.true_and, Bool.false_and, Bool.and_false], S3.out⟩
    go_wp2_with fail
    refine (upto_len 255 (some ⟨w.heap.size, 105, none⟩) 8 T.conflict 8 Lc.out _ (ints_in S3.out.blk 105 8 _ C.out.conflict Lc.out (by decide))).mono ?_
    rintro e w4 ⟨rfl, rfl⟩
    generalize hv : allIn 255 T.conflict = b3
    have V3 := Lib.hid hv
    clear hv
    cases b3
    · go_wp2_with fail
      go_meet
      exact ⟨by simp only [V1.out, V2.out, V3.out, Bool.true_and, Bool.false_and, Bool.and_false], S3.out⟩
    go_wp2_with fail
    refine (upto_len 2 (some ⟨w.heap.size, 121, none⟩) 8 T.flash 8 Lf.out _ (ints_in S3.out.blk 121 8 _ C.out.flash Lf.out (by decide))).mono ?_
    rintro e w5 ⟨rfl, rfl⟩
    go_wp2_with fail
    go_meet
    exact ⟨by simp only [V1.out, V2.out, V3.out, Bool.true_and], S3.out⟩
  case rest =>
  obtain ⟨rfl, hs⟩ := hcut
  clear S0
  generalize hok : (((allIn 9999 [T.extend, T.budget, T.start, T.revert, T.least] && allIn 2147483647 [T.window, T.share]) && allIn 255 T.conflict) && allIn 2 T.flash) = ok
  have HOK := Lib.hid hok
  have S1 := Lib.hid hs
  clear hok hs
  go_wp2_with fail
  go_loopw [3, 4] (fun b i wr => ∃ q : Nat, q ≤ 8 ∧ i = .int .i64 q ∧ b = .bool (ok && (T.phases.take q).all Ph.may) ∧ St w w.heap.size cs h T wr) (fun _ i _ => 8 - (intOf i).toNat)
  case atStart => exact ⟨0, by omega, rfl, by simp, S1.out⟩
  case round =>
    clear S1
    obtain ⟨q, hq, rfl, rfl, hs⟩ := hrel
    have S1 := Lib.hid hs
    clear hs
    by_cases hlt : q < 8
    · have hv : T.phases[q]? = some (T.phases[q]'(by rw [L8.out]; exact hlt)) := List.getElem?_eq_getElem _
      generalize T.phases[q]'(by rw [L8.out]; exact hlt) = v at hv
      have HV := Lib.hid hv
      obtain ⟨x, hx, hc⟩ := (phases_in S1.out.blk C.out L8.out).at hv
      obtain rfl := Option.some.inj hx
      have HC := Lib.hid (show Lies wr ⟨w.heap.size, q * 13, none⟩ v.cells by have := hc; rwa [Addr.add_mid, Nat.zero_add] at this)
      clear hv hc hx
      generalize hacc : (ok && (T.phases.take q).all Ph.may) = acc
      have HA := Lib.hid hacc
      clear hacc
      cases acc
      · go_wp2
        go_roundw
        case rel => exact ⟨q + 1, by omega, by go_num, by rw [acc_step HV.out rfl, HA.out]; rfl, S1.out⟩
        case measure => simp [intOf]; omega
      · go_wp2_with (first | (refine Row.wpList_load_g 25 _ rfl (by first | rfl | go_simp) ⟨w.heap.size, q * 13, none⟩ rfl v.cells _ HC.out Try.underlying25 rfl infoP ?_))
        refine (rphase_any v _).mono ?_
        rintro e w2 ⟨rfl, hb2⟩
        have S2 := Lib.hid (S1.out.step hb2)
        clear hb2
        go_wp2
        go_roundw
        case rel => exact ⟨q + 1, by omega, by go_num, by rw [acc_step HV.out rfl, HA.out, Bool.true_and], S2.out⟩
        case measure => simp [intOf]; omega
    · have hend : (ok && (T.phases.take q).all Ph.may) = (ok && T.phases.all Ph.may) := acc_end (by rw [L8.out]; omega)
      rw [hend]
      generalize hok1 : (ok && T.phases.all Ph.may) = ok1
      have HOK1 := Lib.hid hok1
      clear hok1 hend
      go_wp2_with fail
      go_loopw [5] (fun i wr => ∃ q : Nat, q ≤ gs.length ∧ i = .int .i64 q ∧ GAll (gs.take q) ∧ St w w.heap.size cs h T wr) (fun i _ => gs.length - (intOf i).toNat)
      case atStart => exact ⟨0, by omega, rfl, (rfl : GAll []), S1.out⟩
      case round =>
        clear S1
        obtain ⟨q, hq, rfl, hall, hs⟩ := hrel
        have S1 := Lib.hid hs
        have Hall := Lib.hid hall
        clear hs hall
        have c104 := S1.out.cell C.out.g
        rw [Hgl.out] at c104
        by_cases hlt : q < gs.length
        · have hv := List.getElem?_eq_getElem hlt
          generalize gs[q] = v at hv
          obtain ⟨x, hx, hc⟩ := (Hgr.out.1.below S1.out.bel).at hv
          have hok := Hgr.out.2 v (List.mem_of_getElem? hv)
          have HV := Lib.hid hv
          obtain ⟨l0, l1, ⟨a0, cap0⟩, ⟨a1, cap1⟩⟩ := v
          have HC := Lib.hid hc
          have H0 := Lib.hid hok.1
          have H1 := Lib.hid hok.2
          have K0 := hok.1.len
          have K1 := hok.2.len
          unfold maxLen at K0 K1
          clear hv hc hok
          go_wp2_with fail
          go_loopw [6] (fun i wr => ∃ r : Nat, r ≤ 2 ∧ i = .int .i64 r ∧ (0 < r → rowMay l0 = true) ∧ (1 < r → rowMay l1 = true) ∧ St w w.heap.size cs h T wr) (fun i _ => 2 - (intOf i).toNat)
          case atStart => exact ⟨0, by omega, rfl, fun h => absurd h (by omega), fun h => absurd h (by omega), S1.out⟩
          case round =>
            clear S1 c104
            obtain ⟨r, hr, rfl, hr0, hr1, hs⟩ := hrel
            have S1 := Lib.hid hs
            have R0 := Lib.hid hr0
            have R1 := Lib.hid hr1
            clear hs hr0 hr1
            have c104 := S1.out.cell C.out.g
            simp only [Sl.val, Hgl.out, hx] at c104
            obtain ⟨x', hx', hc⟩ := (Hgr.out.1.below S1.out.bel).at HV.out
            obtain rfl : x' = x := Option.some.inj (hx'.symm.trans hx)
            have e0 := hc 0 _ rfl
            have e1 := hc 1 _ rfl
            rw [add_zero] at e0
            rw [add_one] at e1
            clear hc hx'
            have hr2 : r = 0 ∨ r = 1 ∨ r = 2 := by omega
            rcases hr2 with rfl | rfl | rfl
            · by_cases h8 : 8 < l0.length
              · go_wp2
                go_ret
                exact ⟨ret_bool (may_group (T := T) (g := (l0, l1)) (by rw [← Hgd.out]; exact List.mem_map.2 ⟨_, List.mem_of_getElem? HV.out, rfl⟩) (by unfold groupMay rowMay; simp only []; rw [decide_eq_false (p := l0.length ≤ 8) (by omega)]; simp)).symm, S1.out.bel⟩
              · have H8 := Lib.hid h8
                go_wp2_with (go_at_call 59; refine (upto_any 7 a0 cap0 l0 _ (H0.out.below S1.out.bel)).mono ?_; rintro e w2 ⟨rfl, rfl⟩; generalize hrow : allIn 7 l0 = b; have HR2 := Lib.hid hrow; clear hrow; cases b)
                · go_wp2
                  go_ret
                  exact ⟨ret_bool (may_group (T := T) (g := (l0, l1)) (by rw [← Hgd.out]; exact List.mem_map.2 ⟨_, List.mem_of_getElem? HV.out, rfl⟩) (by unfold groupMay rowMay; simp only []; rw [HR2.out]; simp)).symm, S1.out.bel⟩
                · go_wp2
                  go_roundw
                  case rel => exact ⟨0 + 1, by omega, by go_num, fun _ => by unfold rowMay; rw [HR2.out, decide_eq_true (by have := H8.out; omega)]; rfl, fun h => absurd h (by omega), S1.out⟩
                  case measure => simp [intOf]
            · by_cases h8 : 8 < l1.length
              · go_wp2
                go_ret
                exact ⟨ret_bool (may_group (T := T) (g := (l0, l1)) (by rw [← Hgd.out]; exact List.mem_map.2 ⟨_, List.mem_of_getElem? HV.out, rfl⟩) (by unfold groupMay rowMay; simp only []; rw [decide_eq_false (p := l1.length ≤ 8) (by omega)]; simp)).symm, S1.out.bel⟩
              · have H8 := Lib.hid h8
                go_wp2_with (go_at_call 59; refine (upto_any 7 a1 cap1 l1 _ (H1.out.below S1.out.bel)).mono ?_; rintro e w2 ⟨rfl, rfl⟩; generalize hrow : allIn 7 l1 = b; have HR2 := Lib.hid hrow; clear hrow; cases b)
                · go_wp2
                  go_ret
                  exact ⟨ret_bool (may_group (T := T) (g := (l0, l1)) (by rw [← Hgd.out]; exact List.mem_map.2 ⟨_, List.mem_of_getElem? HV.out, rfl⟩) (by unfold groupMay rowMay; simp only []; rw [HR2.out]; simp)).symm, S1.out.bel⟩
                · go_wp2
                  go_roundw
                  case rel => exact ⟨1 + 1, by omega, by go_num, fun _ => R0.out (by omega), fun _ => by unfold rowMay; rw [HR2.out, decide_eq_true (by have := H8.out; omega)]; rfl, S1.out⟩
                  case measure => simp [intOf]
            · have Hrow := Lib.hid (And.intro (R0.out (by omega)) (R1.out (by omega)))
              go_wp2
              go_roundw
              case rel => exact ⟨q + 1, by omega, by go_num, (Hall.out.step HV.out (by show (rowMay l0 && rowMay l1) = true; rw [Hrow.out.1, Hrow.out.2]; rfl)), S1.out⟩
              case measure => simp [intOf]; omega
        · have hall2 : T.groups.all groupMay = true := by
            have := Hall.out.fin hlt
            rw [← Hgd.out, List.all_map]; exact this
          have HALL := Lib.hid hall2
          clear hall2 Hall
          have c113 := S1.out.cell C.out.d
          go_wp2_with fail
          go_loopw [3, 7] (fun b i wr => ∃ q : Nat, q ≤ T.dets.length ∧ i = .int .i64 q ∧ b = .bool (ok1 && (T.dets.take q).all Det.may) ∧ St w w.heap.size cs h T wr) (fun _ i _ => T.dets.length - (intOf i).toNat)
          case atStart => exact ⟨0, by omega, rfl, by simp, S1.out⟩
          case round =>
            clear S1
            obtain ⟨q, hq, rfl, rfl, hs⟩ := hrel
            have S1 := Lib.hid hs
            clear hs
            have c113 := S1.out.cell C.out.d
            by_cases hlt : q < T.dets.length
            · have hv := List.getElem?_eq_getElem hlt
              generalize T.dets[q] = v at hv
              obtain ⟨x, hx, hc⟩ := (S1.out.tab.dets).at hv
              simp only [Sl.val, hx] at c113
              have HV := Lib.hid hv
              have HC := Lib.hid hc
              clear hv hc
              generalize hacc : (ok1 && (T.dets.take q).all Det.may) = acc
              have HA := Lib.hid hacc
              clear hacc
              cases acc
              · go_wp2
                go_roundw
                case rel => exact ⟨q + 1, by omega, by go_num, by rw [acc_step HV.out rfl, HA.out]; rfl, S1.out⟩
                case measure => simp [intOf]; omega
              · go_wp2_with (first | (refine Row.wpList_load_g 44 _ rfl (by first | rfl | go_simp) (x.add (q * 7)) rfl v.cells _ HC.out Try.underlying44 rfl infoD ?_))
                refine (rdetector_any v _).mono ?_
                rintro e w2 ⟨rfl, hb2⟩
                have S2 := Lib.hid (S1.out.step hb2)
                clear hb2
                go_wp2
                go_roundw
                case rel => exact ⟨q + 1, by omega, by go_num, by rw [acc_step HV.out rfl, HA.out, Bool.true_and], S2.out⟩
                case measure => simp [intOf]; omega
            · have hend : (ok1 && (T.dets.take q).all Det.may) = (ok1 && T.dets.all Det.may) := acc_end hlt
              rw [hend]
              generalize hok1 : (ok1 && T.dets.all Det.may) = ok2
              have HOK2 := Lib.hid hok1
              clear hok1 hend
              have c114 := S1.out.cell C.out.r
              go_wp2_with fail
              go_loopw [3, 8] (fun b i wr => ∃ q : Nat, q ≤ T.rails.length ∧ i = .int .i64 q ∧ b = .bool (ok2 && (T.rails.take q).all Rl.may) ∧ St w w.heap.size cs h T wr) (fun _ i _ => T.rails.length - (intOf i).toNat)
              case atStart => exact ⟨0, by omega, rfl, by simp, S1.out⟩
              case round =>
                clear S1
                obtain ⟨q, hq, rfl, rfl, hs⟩ := hrel
                have S1 := Lib.hid hs
                clear hs
                have c114 := S1.out.cell C.out.r
                by_cases hlt : q < T.rails.length
                · have hv := List.getElem?_eq_getElem hlt
                  generalize T.rails[q] = v at hv
                  obtain ⟨x, hx, hc⟩ := (S1.out.tab.rails).at hv
                  simp only [Sl.val, hx] at c114
                  have HV := Lib.hid hv
                  have HC := Lib.hid hc
                  clear hv hc
                  generalize hacc : (ok2 && (T.rails.take q).all Rl.may) = acc
                  have HA := Lib.hid hacc
                  clear hacc
                  cases acc
                  · go_wp2
                    go_roundw
                    case rel => exact ⟨q + 1, by omega, by go_num, by rw [acc_step HV.out rfl, HA.out]; rfl, S1.out⟩
                    case measure => simp [intOf]; omega
                  · go_wp2_with (first | (refine Row.wpList_load_g 46 _ rfl (by first | rfl | go_simp) (x.add (q * 11)) rfl v.cells _ HC.out Try.underlying46 rfl infoR ?_))
                    refine (rrail_any v _).mono ?_
                    rintro e w2 ⟨rfl, hb2⟩
                    have S2 := Lib.hid (S1.out.step hb2)
                    clear hb2
                    go_wp2
                    go_roundw
                    case rel => exact ⟨q + 1, by omega, by go_num, by rw [acc_step HV.out rfl, HA.out, Bool.true_and], S2.out⟩
                    case measure => simp [intOf]; omega
                · have hend : (ok2 && (T.rails.take q).all Rl.may) = (ok2 && T.rails.all Rl.may) := acc_end hlt
                  rw [hend]
                  generalize hok1 : (ok2 && T.rails.all Rl.may) = ok3
                  have HOK3 := Lib.hid hok1
                  clear hok1 hend
                  have c115 := S1.out.cell C.out.b
                  go_wp2_with fail
                  go_loopw [3, 9] (fun b i wr => ∃ q : Nat, q ≤ T.buses.length ∧ i = .int .i64 q ∧ b = .bool (ok3 && (T.buses.take q).all Bs.may) ∧ St w w.heap.size cs h T wr) (fun _ i _ => T.buses.length - (intOf i).toNat)
                  case atStart => exact ⟨0, by omega, rfl, by simp, S1.out⟩
                  case round =>
                    clear S1
                    obtain ⟨q, hq, rfl, rfl, hs⟩ := hrel
                    have S1 := Lib.hid hs
                    clear hs
                    have c115 := S1.out.cell C.out.b
                    by_cases hlt : q < T.buses.length
                    · have hv := List.getElem?_eq_getElem hlt
                      generalize T.buses[q] = v at hv
                      obtain ⟨x, hx, hc⟩ := (S1.out.tab.buses).at hv
                      simp only [Sl.val, hx] at c115
                      have HV := Lib.hid hv
                      have e0 := hc 0 _ rfl
                      have e1 := hc 1 _ rfl
                      rw [add_zero] at e0
                      rw [add_one] at e1
                      obtain ⟨set, lock⟩ := v
                      have HC := Lib.hid hc
                      clear hv hc
                      generalize hacc : (ok3 && (T.buses.take q).all Bs.may) = acc
                      have HA := Lib.hid hacc
                      clear hacc
                      cases acc
                      · go_wp2
                        go_roundw
                        case rel => exact ⟨q + 1, by omega, by go_num, by rw [acc_step HV.out rfl, HA.out]; rfl, S1.out⟩
                        case measure => simp [intOf]; omega
                      · go_wp2_with fail
                        refine (upto_any 255 _ _ [set] _ (row_new _ _ [set] 1 rfl (by decide) _ rfl)).mono ?_
                        rintro e w2 ⟨rfl, hw⟩
                        have hb2 : Below wr.heap.size wr w2 := hw ▸ (Below.refl _ _).alloc (Nat.le_refl _) _
                        clear hw
                        have S2 := Lib.hid (S1.out.step hb2)
                        have HC2 := Lib.hid (HC.out.below hb2)
                        clear hb2 e0 e1 c115
                        generalize hv : allIn 255 [set] = b1
                        have V1 := Lib.hid hv
                        clear hv
                        cases b1
                        · go_wp2
                          go_roundw
                          case rel => exact ⟨q + 1, by omega, by go_num, by rw [acc_step HV.out rfl, HA.out, Bool.true_and]; unfold Bs.may; rw [V1.out]; rfl, S2.out⟩
                          case measure => simp [intOf]; omega
                        · have c115 := S2.out.cell C.out.b
                          simp only [Sl.val, hx] at c115
                          have e0 := HC2.out 0 _ rfl
                          have e1 := HC2.out 1 _ rfl
                          rw [add_zero] at e0
                          rw [add_one] at e1
                          go_wp2_with fail
                          refine (times_any _ _ [lock] _ (row_new _ _ [lock] 1 rfl (by decide) _ rfl)).mono ?_
                          rintro e w3 ⟨rfl, hw⟩
                          have hb3 : Below w2.heap.size w2 w3 := hw ▸ (Below.refl _ _).alloc (Nat.le_refl _) _
                          clear hw
                          have S3 := Lib.hid (S2.out.step hb3)
                          clear hb3 e0 e1 c115
                          go_wp2
                          go_roundw
                          case rel => exact ⟨q + 1, by omega, by go_num, by rw [acc_step HV.out rfl, HA.out, Bool.true_and]; unfold Bs.may; rw [V1.out, Bool.true_and], S3.out⟩
                          case measure => simp [intOf]; omega
                    · have hend : (ok3 && (T.buses.take q).all Bs.may) = (ok3 && T.buses.all Bs.may) := acc_end hlt
                      rw [hend]
                      go_wp2
                      go_ret
                      exact ⟨ret_bool (by rw [may_order L8.out HG.out HD.out HR.out HB.out HALL.out, ← HOK3.out, ← HOK2.out, ← HOK1.out, ← HOK.out]; rfl), S1.out.bel⟩
end Go.Proofs.Ytfnpcfibgabmfaa.May
/- make and copy for elements of several cells: the walk's laws; a list's elements as one row of cells. No program in it. -/
namespace Go.Proofs.Ytfnpcfibgabmfaa.Copy
open Go Go.RowKit
open Tab

section
variable {P : Program}
theorem run_copy_rows (w : World) (dT sT ty elem : TypeId) (g dLen dCap : Nat) (a : Addr) (sLen sCap c n : Nat) (cur : Array Value) (t : TypeId) (cs : List Value)
    (hu : P.underlying dT = some (.slice elem)) (hs : (P.info? elem).map (·.size) = some c) (hg : w.heap[g]? = some (.cells cur t (0, 0))) (hn : n = Nat.min sLen dLen) (hc : cs.length = n * c)
    (hsrc : Lies w a cs) (hfit : cs.length = cur.size) (h1 : ∀ v ∈ cs, v.oneCell' = true) :
    (Builtin.copy_ #[dT, sT] ty #[.slice (some ⟨g, 0, none⟩) dLen dCap, .slice (some a) sLen sCap]).run P w = .ok (goInt n) (w.setRow g cs.toArray) := by
  have hl := run_loadCells_list (P := P) w a cs hsrc
  have hst := run_storeCells_at P g 0 t cs 0 cur w hg (by omega) h1
  cases hq : P.info? elem with
  | none => simp [hq] at hs
  | some i =>
    have hi : i.size = c := by simpa [hq] using hs
    rw [hc] at hl
    have he : cur.toList.take (0 + 0) ++ cs ++ cur.toList.drop (0 + 0 + cs.length) = cs := by
      rw [List.drop_of_length_le (by simp; omega)]; simp
    rw [he] at hst
    simp [Builtin.copy_, run_underlying hu, Builtin.lenOf, Builtin.firstCells, sizeOf, typeInfo, hq, hi, ← hn, hl, hst]
theorem run_copy_zero (w : World) (dT sT ty elem : TypeId) (dp sp : Option Addr) (dLen dCap sLen sCap : Nat) (hu : P.underlying dT = some (.slice elem)) (hs : ((P.info? elem).map (·.size)).isSome = true) (hn : Nat.min sLen dLen = 0) :
    (Builtin.copy_ #[dT, sT] ty #[.slice dp dLen dCap, .slice sp sLen sCap]).run P w = .ok (goInt 0) w := by
  cases hq : P.info? elem with
  | none => simp [hq] at hs
  | some i => cases dp <;> cases sp <;> simp [Builtin.copy_, run_underlying hu, Builtin.lenOf, Builtin.firstCells, sizeOf, typeInfo, hq, storeCells, hn, loadCells, loadCellsFrom]
/-- make([]T, n): a block of n times as many cells as an element has. -/
theorem wpList_make_rows {ops : Array Oper} {rest : List Oper} {o : Oper} {a : Act} {w : World} {Q : Exit → Act → World → Prop} (hg : o.guard = none) (l c : Operand) (t e : TypeId) (hop : o.op = Op.makeSlice t l c) (hu : P.underlying t = some (.slice e))
    (z : Value) (size bytes : Nat) (hi : (P.info? e).map (fun i => (i.zero, i.size, i.bytes)) = some (some z, size, bytes)) (n : Nat) (hl : a.eval l = .int .i64 (n : Int)) (hc : a.eval c = .int .i64 (n : Int)) (hn : n ≤ 1000) (hb : bytes ≤ 100000)
    (h : ∀ w' cur, w'.heap[w.heap.size]? = some (.cells cur e (0, 0)) → cur.size = n * size → Below w.heap.size w w' → w'.heap.size = w.heap.size + 1 → wpList P ops Q rest (a.put o.dst (.slice (some ⟨w.heap.size, 0, none⟩) n n)) w') : wpList P ops Q (o :: rest) a w := by
  obtain ⟨i, hi0, hz, hs, hby⟩ := info_parts hi
  refine wpList_plain hg fun K hK => ?_
  have hle : (i.bytes : Int) * (n : Int) ≤ 281474976710656 := by
    have h1 : i.bytes * n ≤ 100000 * 1000 := Nat.mul_le_mul (by omega) hn
    have h2 : (i.bytes : Int) * (n : Int) = ((i.bytes * n : Nat) : Int) := by simp
    omega
  have hrun := run_make (P := P) w t e i z hu hi0 hz .i64 .i64 (n : Int) (n : Int) (by omega) (by omega) hle (by omega)
  unfold Oper.wp
  simp only [execOp, hop, hl, hc, Sem.run_bind, hrun, Result.andThen_ok]
  refine hK _ _ (h _ _ (heap_alloc_new _ _) ?_ ((Below.refl _ _).alloc (Nat.le_refl _) _) (by simp))
  rw [size_madeCells, hs]; simp
/-- copy into all of a block of the call's own. -/
theorem wpList_copy_rows {ops : Array Oper} {rest : List Oper} {o : Oper} {a : Act} {w : World} {Q : Exit → Act → World → Prop} (hgd : o.guard = none) (d s : Operand) (dT sT elem : TypeId)
    (ho : o.op = .call { callee := .builtin .copy, args := #[d, s], argTypes := #[dT, sT] }) (hu : P.underlying dT = some (.slice elem)) (c : Nat) (hsz : (P.info? elem).map (·.size) = some c)
    (g n sCap : Nat) (sp : Option Addr) (hd : a.eval d = .slice (some ⟨g, 0, none⟩) n n) (hs : a.eval s = .slice sp n sCap) (cur : Array Value) (t : TypeId) (hg : w.heap[g]? = some (.cells cur t (0, 0)))
    (cs : List Value) (hcs : cs.length = n * c) (hcur : cur.size = n * c) (hsrc : 0 < n → ∃ x, sp = some x ∧ Lies w x cs) (h1 : ∀ v ∈ cs, v.oneCell' = true)
    (h : ∀ w', w'.heap[g]? = some (.cells cs.toArray t (0, 0)) → Below g w w' → w'.heap.size = w.heap.size → wpList P ops Q rest (a.put o.dst (goInt n)) w') : wpList P ops Q (o :: rest) a w := by
  refine wpList_plain hgd fun K hK => ?_
  by_cases h0 : n = 0
  · subst h0
    have hrun := run_copy_zero (P := P) w dT sT o.type elem (some ⟨g, 0, none⟩) sp 0 0 0 sCap hu (by rw [hsz]; rfl) rfl
    unfold Oper.wp
    simp [execOp, ho, resolve, invoke, builtin, hd, hs, hrun, Result.andThen]
    have e1 : cs = [] := List.eq_nil_of_length_eq_zero (by simpa using hcs)
    have e2 : cur = #[] := Array.eq_empty_of_size_eq_zero (by simpa using hcur)
    refine hK _ _ (h w ?_ (Below.refl _ _) rfl)
    rw [hg, e1, e2]
  · obtain ⟨x, rfl, hlx⟩ := hsrc (by omega)
    have hrun := run_copy_rows (P := P) w dT sT o.type elem g n n x n sCap c n cur t cs hu hsz hg (Nat.min_self n).symm hcs hlx (by omega) h1
    unfold Oper.wp
    simp [execOp, ho, resolve, invoke, builtin, hd, hs, hrun, Result.andThen]
    exact hK _ _ (h _ (setRow_heap w g cur cs.toArray t _ hg) (below_setRow (Below.refl _ _) (Nat.le_refl _) _) (by simp))
end

/-! ### a list's elements as one row -/
section
variable {α : Type} {n : Nat} {enc : α → List Value}
theorem flat_len (he : ∀ v, (enc v).length = n) (l : List α) : (l.flatMap enc).length = l.length * n := by
  induction l with
  | nil => simp
  | cons v l ih => rw [List.flatMap_cons, List.length_append, ih, he, List.length_cons, Nat.add_mul, Nat.one_mul, Nat.add_comm]
theorem lies_flat (he : ∀ v, (enc v).length = n) {w : World} {x : Addr} : ∀ (l : List α) (k : Nat), (∀ i v, l[i]? = some v → Lies w (x.add ((k + i) * n)) (enc v)) → Lies w (x.add (k * n)) (l.flatMap enc)
  | [], _, _ => fun j v hv => by simp at hv
  | u :: l, k, h => by
    have ih := lies_flat he l (k + 1) (fun i v hv => by have := h (i + 1) v (by simpa using hv); rwa [show k + (i + 1) = k + 1 + i by omega] at this)
    intro j v hv
    rw [List.flatMap_cons, List.getElem?_append] at hv
    split at hv
    · exact h 0 u rfl j v hv
    · rename_i hj
      have := ih (j - (enc u).length) v hv
      rw [add_two, he u, Nat.add_mul, Nat.one_mul, show k * n + n + (j - n) = k * n + j by rw [he u] at hj; omega] at this
      rw [add_two]; exact this
theorem flat_at (he : ∀ v, (enc v).length = n) : ∀ (l : List α) (i : Nat) (v : α) (j : Nat) (u : Value), l[i]? = some v → (enc v)[j]? = some u → (l.flatMap enc)[i * n + j]? = some u
  | x :: l, 0, v, j, u, h, hu => by
    obtain rfl := Option.some.inj h
    rw [List.flatMap_cons, Nat.zero_mul, Nat.zero_add, List.getElem?_append_left (List.getElem?_eq_some_iff.1 hu).1]; exact hu
  | x :: l, i + 1, v, j, u, h, hu => by
    have := flat_at he l i v j u (by simpa using h) hu
    rw [List.flatMap_cons, List.getElem?_append_right (by rw [he, Nat.add_mul]; omega), he, Nat.add_mul, Nat.one_mul, show i * n + n + j - n = i * n + j by omega]
    exact this
/-- A block that holds just a list's elements, as a slice over it. -/
theorem row_of_block (he : ∀ v, (enc v).length = n) {w : World} {g : Nat} {t : TypeId} {fr : Nat × Nat} (l : List α) (hg : w.heap[g]? = some (.cells (l.flatMap enc).toArray t fr)) (hl : l.length ≤ maxLen) : RowOf n enc w ⟨some ⟨g, 0, none⟩, l.length⟩ l := by
  refine .inr ⟨_, rfl, Nat.le_refl _, hl, fun i v hv j u hu => ?_⟩
  rw [add_two, Addr.add_mid, cell_of_row _ _ _ _ _ _ hg, Nat.zero_add]
  simpa using flat_at he l i v j u hv hu
theorem RowOf.flat (he : ∀ v, (enc v).length = n) {w : World} {s : Sl} {l : List α} (h : RowOf n enc w s l) (h0 : 0 < l.length) : ∃ x, s.a = some x ∧ Lies w x (l.flatMap enc) := by
  rcases h with ⟨_, _, rfl⟩ | ⟨x, h1, h2, h3, h4⟩
  · simp at h0
  · refine ⟨x, h1, ?_⟩
    have := lies_flat (x := x) he l 0 (fun i v hv => by rw [Nat.zero_add]; exact h4 i v hv)
    rwa [Nat.zero_mul, add_zero] at this
theorem flat_one (ho : ∀ v, (enc v).toArray.all (·.oneCell') = true) (l : List α) : ∀ u ∈ l.flatMap enc, u.oneCell' = true := by
  intro u hu
  obtain ⟨v, _, hv⟩ := List.mem_flatMap.1 hu
  have := ho v
  rw [List.all_toArray] at this
  exact List.all_eq_true.1 this u hv
end
end Go.Proofs.Ytfnpcfibgabmfaa.Copy
/- The contracts of table.fresh at its five types of element: a copy in new memory. -/
namespace Go.Proofs.Ytfnpcfibgabmfaa.Clone
open Go.ChangeShapes Go.WideShapes Go.ChangeAt Go.RowKit
open Tab Copy
open May (chain infoP infoG infoD infoR infoB)
set_option linter.unusedVariables false
set_option linter.unusedSimpArgs false
/-- What fresh hands back: a new block that holds just the elements. -/
def Fresh (e : TypeId) (cs : List Value) (n : Nat) (w : World) (r : Ending) (w' : World) : Prop :=
  r = .returned (.slice (some ⟨w.heap.size, 0, none⟩) n n) ∧ w'.heap[w.heap.size]? = some (.cells cs.toArray e (0, 0)) ∧ Below w.heap.size w w' ∧ w'.heap.size = w.heap.size + 1
theorem infoI : (Try.prog.info? 3).map (·.size) = some 1 := by kernel_rfl
theorem zI : (Try.prog.info? 3).map (fun i => (i.zero, i.size, i.bytes)) = some (some (.int .i64 0), 1, 8) := by kernel_rfl
theorem zG : (Try.prog.info? 42).map (fun i => (i.zero, i.size, i.bytes)) = some (some (.agg #[.slice none 0 0, .slice none 0 0]), 2, 48) := by kernel_rfl
theorem zD : (Try.prog.info? 44).map (fun i => (i.zero, i.size, i.bytes)) = some (some (.agg #[.int .i64 0, .float .f64 0, .float .f64 0, .float .f64 0, .float .f64 0, .int .i64 0, .int .i64 0]), 7, 56) := by kernel_rfl
theorem zR : (Try.prog.info? 46).map (fun i => (i.zero, i.size, i.bytes)) = some (some (.agg #[.int .i64 0, .int .i64 0, .int .i64 0, .int .i64 0, .int .i64 0, .int .i64 0, .int .i64 0, .int .i64 0, .int .i64 0, .int .i64 0, .int .i64 0]), 11, 88) := by kernel_rfl
theorem zB : (Try.prog.info? 48).map (fun i => (i.zero, i.size, i.bytes)) = some (some (.agg #[.int .i64 0, .int .i64 0]), 2, 16) := by kernel_rfl
theorem RowOf_flat {α : Type} {n : Nat} {enc : α → List Value} (he : ∀ v, (enc v).length = n) {w : World} {s : Sl} {l : List α} (h : RowOf n enc w s l) (h0 : 0 < l.length) : ∃ x, s.a = some x ∧ Lies w x (l.flatMap enc) := Copy.RowOf.flat he h h0
set_option maxRecDepth 10000 in
theorem freshI_any (a : Option Addr) (cap : Nat) (l : List Int) (w : World) (h : RowOf 1 (fun n => [I n]) w ⟨a, cap⟩ l) (hl : l.length ≤ 1000) :
    Calls Try.prog 43 #[.slice a l.length cap] w fun r w' => Fresh 3 (l.flatMap (fun n => [I n])) l.length w r w' := by
  have Hr := Lib.hid h
  have Hl := Lib.hid hl
  have hln := h.len
  unfold maxLen at hln
  clear h hl
  go_enter Try.func43, Try.ntmps43
  go_wp2_with (at_make; refine wpList_make_rows rfl _ _ 22 3 rfl Try.underlying22 _ 1 _ zI l.length rfl rfl Hl.out (by omega) ?_)
  intro w1 cur hg hsz hb hz
  have HZ := Lib.hid hz
  have HG := Lib.hid hg
  have HB := Lib.hid hb
  have HS := Lib.hid hsz
  have HF := Lib.hid (fun h0 => RowOf_flat (n := 1) (enc := (fun n => [I n])) (fun _ => rfl) (Hr.out.below HB.out) h0)
  have HO := Lib.hid (flat_one (enc := (fun n => [I n])) (fun v => by simp [Value.oneCell']) l)
  have HL := Lib.hid (flat_len (n := 1) (enc := (fun n => [I n])) (fun _ => rfl) l)
  clear hg hb hsz hz
  go_wp2_with (refine wpList_copy_rows rfl _ _ 22 22 3 rfl Try.underlying22 1 infoI w.heap.size l.length cap a rfl rfl cur 3 HG.out (l.flatMap (fun n => [I n])) (by have := HL.out; omega) (by have := HS.out; omega) HF.out HO.out ?_)
  intro w2 hg2 hb2 hz2
  have HZ2 := Lib.hid (hz2.trans HZ.out)
  have HG2 := Lib.hid hg2
  have HB2 := Lib.hid (HB.out.trans hb2)
  clear hg2 hb2 hz2
  go_wp2
  go_ret
  exact ⟨rfl, HG2.out, HB2.out, HZ2.out⟩
set_option maxRecDepth 10000 in
theorem freshG_any (a : Option Addr) (cap : Nat) (l : List Gr) (w : World) (h : RowOf 2 Gr.cells w ⟨a, cap⟩ l) (hl : l.length ≤ 1000) :
    Calls Try.prog 42 #[.slice a l.length cap] w fun r w' => Fresh 42 (l.flatMap Gr.cells) l.length w r w' := by
  have Hr := Lib.hid h
  have Hl := Lib.hid hl
  have hln := h.len
  unfold maxLen at hln
  clear h hl
  go_enter Try.func42, Try.ntmps42
  go_wp2_with (at_make; refine wpList_make_rows rfl _ _ 27 42 rfl Try.underlying27 _ 2 _ zG l.length rfl rfl Hl.out (by omega) ?_)
  intro w1 cur hg hsz hb hz
  have HZ := Lib.hid hz
  have HG := Lib.hid hg
  have HB := Lib.hid hb
  have HS := Lib.hid hsz
  have HF := Lib.hid (fun h0 => RowOf_flat (n := 2) (enc := Gr.cells) (fun _ => rfl) (Hr.out.below HB.out) h0)
  have HO := Lib.hid (flat_one (enc := Gr.cells) Gr.one l)
  have HL := Lib.hid (flat_len (n := 2) (enc := Gr.cells) (fun _ => rfl) l)
  clear hg hb hsz hz
  go_wp2_with (refine wpList_copy_rows rfl _ _ 27 27 42 rfl Try.underlying27 2 infoG w.heap.size l.length cap a rfl rfl cur 42 HG.out (l.flatMap Gr.cells) (by have := HL.out; omega) (by have := HS.out; omega) HF.out HO.out ?_)
  intro w2 hg2 hb2 hz2
  have HZ2 := Lib.hid (hz2.trans HZ.out)
  have HG2 := Lib.hid hg2
  have HB2 := Lib.hid (HB.out.trans hb2)
  clear hg2 hb2 hz2
  go_wp2
  go_ret
  exact ⟨rfl, HG2.out, HB2.out, HZ2.out⟩
set_option maxRecDepth 10000 in
theorem freshD_any (a : Option Addr) (cap : Nat) (l : List Det) (w : World) (h : RowOf 7 Det.cells w ⟨a, cap⟩ l) (hl : l.length ≤ 1000) :
    Calls Try.prog 44 #[.slice a l.length cap] w fun r w' => Fresh 44 (l.flatMap Det.cells) l.length w r w' := by
  have Hr := Lib.hid h
  have Hl := Lib.hid hl
  have hln := h.len
  unfold maxLen at hln
  clear h hl
  go_enter Try.func44, Try.ntmps44
  go_wp2_with (at_make; refine wpList_make_rows rfl _ _ 29 44 rfl Try.underlying29 _ 7 _ zD l.length rfl rfl Hl.out (by omega) ?_)
  intro w1 cur hg hsz hb hz
  have HZ := Lib.hid hz
  have HG := Lib.hid hg
  have HB := Lib.hid hb
  have HS := Lib.hid hsz
  have HF := Lib.hid (fun h0 => RowOf_flat (n := 7) (enc := Det.cells) (fun _ => rfl) (Hr.out.below HB.out) h0)
  have HO := Lib.hid (flat_one (enc := Det.cells) Det.one l)
  have HL := Lib.hid (flat_len (n := 7) (enc := Det.cells) (fun _ => rfl) l)
  clear hg hb hsz hz
  go_wp2_with (refine wpList_copy_rows rfl _ _ 29 29 44 rfl Try.underlying29 7 infoD w.heap.size l.length cap a rfl rfl cur 44 HG.out (l.flatMap Det.cells) (by have := HL.out; omega) (by have := HS.out; omega) HF.out HO.out ?_)
  intro w2 hg2 hb2 hz2
  have HZ2 := Lib.hid (hz2.trans HZ.out)
  have HG2 := Lib.hid hg2
  have HB2 := Lib.hid (HB.out.trans hb2)
  clear hg2 hb2 hz2
  go_wp2
  go_ret
  exact ⟨rfl, HG2.out, HB2.out, HZ2.out⟩
set_option maxRecDepth 10000 in
theorem freshR_any (a : Option Addr) (cap : Nat) (l : List Rl) (w : World) (h : RowOf 11 Rl.cells w ⟨a, cap⟩ l) (hl : l.length ≤ 1000) :
    Calls Try.prog 45 #[.slice a l.length cap] w fun r w' => Fresh 46 (l.flatMap Rl.cells) l.length w r w' := by
  have Hr := Lib.hid h
  have Hl := Lib.hid hl
  have hln := h.len
  unfold maxLen at hln
  clear h hl
  go_enter Try.func45, Try.ntmps45
  go_wp2_with (at_make; refine wpList_make_rows rfl _ _ 30 46 rfl Try.underlying30 _ 11 _ zR l.length rfl rfl Hl.out (by omega) ?_)
  intro w1 cur hg hsz hb hz
  have HZ := Lib.hid hz
  have HG := Lib.hid hg
  have HB := Lib.hid hb
  have HS := Lib.hid hsz
  have HF := Lib.hid (fun h0 => RowOf_flat (n := 11) (enc := Rl.cells) (fun _ => rfl) (Hr.out.below HB.out) h0)
  have HO := Lib.hid (flat_one (enc := Rl.cells) Rl.one l)
  have HL := Lib.hid (flat_len (n := 11) (enc := Rl.cells) (fun _ => rfl) l)
  clear hg hb hsz hz
  go_wp2_with (refine wpList_copy_rows rfl _ _ 30 30 46 rfl Try.underlying30 11 infoR w.heap.size l.length cap a rfl rfl cur 46 HG.out (l.flatMap Rl.cells) (by have := HL.out; omega) (by have := HS.out; omega) HF.out HO.out ?_)
  intro w2 hg2 hb2 hz2
  have HZ2 := Lib.hid (hz2.trans HZ.out)
  have HG2 := Lib.hid hg2
  have HB2 := Lib.hid (HB.out.trans hb2)
  clear hg2 hb2 hz2
  go_wp2
  go_ret
  exact ⟨rfl, HG2.out, HB2.out, HZ2.out⟩
set_option maxRecDepth 10000 in
theorem freshB_any (a : Option Addr) (cap : Nat) (l : List Bs) (w : World) (h : RowOf 2 Bs.cells w ⟨a, cap⟩ l) (hl : l.length ≤ 1000) :
    Calls Try.prog 46 #[.slice a l.length cap] w fun r w' => Fresh 48 (l.flatMap Bs.cells) l.length w r w' := by
  have Hr := Lib.hid h
  have Hl := Lib.hid hl
  have hln := h.len
  unfold maxLen at hln
  clear h hl
  go_enter Try.func46, Try.ntmps46
  go_wp2_with (at_make; refine wpList_make_rows rfl _ _ 31 48 rfl Try.underlying31 _ 2 _ zB l.length rfl rfl Hl.out (by omega) ?_)
  intro w1 cur hg hsz hb hz
  have HZ := Lib.hid hz
  have HG := Lib.hid hg
  have HB := Lib.hid hb
  have HS := Lib.hid hsz
  have HF := Lib.hid (fun h0 => RowOf_flat (n := 2) (enc := Bs.cells) (fun _ => rfl) (Hr.out.below HB.out) h0)
  have HO := Lib.hid (flat_one (enc := Bs.cells) Bs.one l)
  have HL := Lib.hid (flat_len (n := 2) (enc := Bs.cells) (fun _ => rfl) l)
  clear hg hb hsz hz
  go_wp2_with (refine wpList_copy_rows rfl _ _ 31 31 48 rfl Try.underlying31 2 infoB w.heap.size l.length cap a rfl rfl cur 48 HG.out (l.flatMap Bs.cells) (by have := HL.out; omega) (by have := HS.out; omega) HF.out HO.out ?_)
  intro w2 hg2 hb2 hz2
  have HZ2 := Lib.hid (hz2.trans HZ.out)
  have HG2 := Lib.hid hg2
  have HB2 := Lib.hid (HB.out.trans hb2)
  clear hg2 hb2 hz2
  go_wp2
  go_ret
  exact ⟨rfl, HG2.out, HB2.out, HZ2.out⟩
end Go.Proofs.Ytfnpcfibgabmfaa.Clone
/- Blocks of a call's own, each known whole, no two the same. No program in it. -/
namespace Go.Proofs.Ytfnpcfibgabmfaa.Owned
open Go Go.RowKit
open Tab Copy
structure Blk where
  at_ : Nat
  cells : List Value
  type : TypeId
def Own (B : Nat) (w : World) (L : List Blk) : Prop := (L.map Blk.at_).Nodup ∧ ∀ x ∈ L, B ≤ x.at_ ∧ w.heap[x.at_]? = some (.cells x.cells.toArray x.type (0, 0))
variable {B : Nat} {w w' : World} {L M : List Blk} {x : Blk}
theorem Own.nil : Own B w [] := ⟨by simp, fun x h => by simp at h⟩
theorem Own.get (h : Own B w L) (hx : x ∈ L) : w.heap[x.at_]? = some (.cells x.cells.toArray x.type (0, 0)) := (h.2 x hx).2
theorem Own.base (h : Own B w L) (hx : x ∈ L) : B ≤ x.at_ := (h.2 x hx).1
theorem Own.lt (h : Own B w L) (hx : x ∈ L) : x.at_ < w.heap.size := (Array.getElem?_eq_some_iff.1 (h.get hx)).1
theorem Own.step (h : Own B w L) (hb : Below w.heap.size w w') : Own B w' L := ⟨h.1, fun x hx => ⟨h.base hx, by rw [hb.block _ (h.lt hx)]; exact h.get hx⟩⟩
theorem Own.same (h : Own B w L) (hs : w'.heap = w.heap) : Own B w' L := ⟨h.1, fun x hx => ⟨h.base hx, by rw [hs]; exact h.get hx⟩⟩
theorem Own.perm (h : Own B w L) (hp : M.Perm L) : Own B w M := ⟨(hp.map Blk.at_).nodup_iff.2 h.1, fun x hx => h.2 x (hp.mem_iff.1 hx)⟩
theorem Own.tail (h : Own B w (x :: L)) : Own B w L := ⟨(List.nodup_cons.1 h.1).2, fun y hy => h.2 y (List.mem_cons_of_mem _ hy)⟩
/-- A new block. -/
theorem Own.add (h : Own B w L) (hb : Below w.heap.size w w') {g : Nat} {cs : List Value} {t : TypeId} (hg : w'.heap[g]? = some (.cells cs.toArray t (0, 0))) (hn : w.heap.size ≤ g) (hB : B ≤ w.heap.size) : Own B w' (⟨g, cs, t⟩ :: L) := by
  refine ⟨List.nodup_cons.2 ⟨fun hm => ?_, h.1⟩, fun y hy => ?_⟩
  · obtain ⟨y, hy, e⟩ := List.mem_map.1 hm
    have := h.lt hy
    have e' : y.at_ = g := e
    omega
  · rcases List.mem_cons.1 hy with rfl | hy
    · exact ⟨Nat.le_trans hB hn, hg⟩
    · exact (h.step hb).2 y hy
/-- The first block is written. -/
theorem Own.write (h : Own B w (x :: L)) {cs : List Value} (hg : w'.heap[x.at_]? = some (.cells cs.toArray x.type (0, 0))) (ho : ∀ j, j ≠ x.at_ → w'.heap[j]? = w.heap[j]?) : Own B w' (⟨x.at_, cs, x.type⟩ :: L) := by
  have hx := (List.nodup_cons.1 h.1).1
  refine ⟨List.nodup_cons.2 ⟨hx, (List.nodup_cons.1 h.1).2⟩, fun y hy => ?_⟩
  rcases List.mem_cons.1 hy with rfl | hy
  · exact ⟨(h.base (x := x) (List.mem_cons_self ..) : B ≤ x.at_), hg⟩
  · have hne : y.at_ ≠ x.at_ := fun e => hx (List.mem_map.2 ⟨y, hy, e⟩)
    exact ⟨h.base (List.mem_cons_of_mem _ hy), by rw [ho _ hne]; exact h.get (List.mem_cons_of_mem _ hy)⟩
theorem Own.write_row (h : Own B w (x :: L)) (cs : List Value) : Own B (w.setRow x.at_ cs.toArray) (⟨x.at_, cs, x.type⟩ :: L) :=
  h.write (setRow_heap _ _ _ _ _ _ (h.get (List.mem_cons_self ..))) (fun j hj => setRow_other _ _ _ _ hj)
theorem Own.write_cell (h : Own B w (x :: L)) (i : Nat) (v : Value) : Own B (w.setCell ⟨x.at_, i, none⟩ v) (⟨x.at_, x.cells.set i v, x.type⟩ :: L) := by
  refine h.write ?_ (fun j hj => heap_setCell_other _ _ _ _ hj)
  rw [heap_setCell_same _ _ _ _ _ _ (h.get (List.mem_cons_self ..))]
  congr 2
  simp
/-- Block number i of the list is written. -/
theorem Own.write_at {i : Nat} (h : Own B w L) (hx : L[i]? = some x) {cs : List Value} (hg : w'.heap[x.at_]? = some (.cells cs.toArray x.type (0, 0))) (ho : ∀ j, j ≠ x.at_ → w'.heap[j]? = w.heap[j]?) : Own B w' (L.set i ⟨x.at_, cs, x.type⟩) := by
  have hi : i < L.length := (List.getElem?_eq_some_iff.1 hx).1
  have hxi : L[i] = x := (List.getElem?_eq_some_iff.1 hx).2
  have hm : (L.set i ⟨x.at_, cs, x.type⟩).map Blk.at_ = L.map Blk.at_ := by
    rw [List.map_set]
    apply List.ext_getElem?
    intro j
    rw [List.getElem?_set]
    split
    · rename_i e
      subst e
      simp [hi, hxi]
    · rfl
  refine ⟨by rw [hm]; exact h.1, fun y hy => ?_⟩
  obtain ⟨j, hj⟩ := List.getElem?_of_mem hy
  rw [List.getElem?_set] at hj
  split at hj
  · rename_i e
    subst e
    obtain rfl := Option.some.inj hj
    exact ⟨(h.base (x := x) (List.mem_of_getElem? hx) : B ≤ x.at_), hg⟩
  · rename_i e
    have hyL := List.mem_of_getElem? hj
    have hne : y.at_ ≠ x.at_ := fun e' => by
      have h1 : (L.map Blk.at_)[j]? = some y.at_ := by rw [List.getElem?_map, hj]; rfl
      have h2 : (L.map Blk.at_)[i]? = some x.at_ := by rw [List.getElem?_map, hx]; rfl
      have hjl := (List.getElem?_eq_some_iff.1 h1).1
      have hil := (List.getElem?_eq_some_iff.1 h2).1
      have e1 := (List.getElem?_eq_some_iff.1 h1).2
      have e2 := (List.getElem?_eq_some_iff.1 h2).2
      have hp := List.pairwise_iff_getElem.1 h.1
      rcases Nat.lt_trichotomy i j with h3 | h3 | h3
      · exact hp i j hil hjl h3 (by rw [e1, e2, e'])
      · exact e h3
      · exact hp j i hjl hil h3 (by rw [e1, e2, e'])
    exact ⟨h.base hyL, by rw [ho _ hne]; exact h.get hyL⟩
theorem Own.row_at {i : Nat} (h : Own B w L) (hx : L[i]? = some x) (cs : List Value) : Own B (w.setRow x.at_ cs.toArray) (L.set i ⟨x.at_, cs, x.type⟩) :=
  h.write_at hx (setRow_heap _ _ _ _ _ _ (h.get (List.mem_of_getElem? hx))) (fun j hj => setRow_other _ _ _ _ hj)
theorem Own.cell_at {i : Nat} (h : Own B w L) (hx : L[i]? = some x) (o : Nat) (v : Value) : Own B (w.setCell ⟨x.at_, o, none⟩ v) (L.set i ⟨x.at_, x.cells.set o v, x.type⟩) := by
  refine h.write_at hx ?_ (fun j hj => heap_setCell_other _ _ _ _ hj)
  rw [heap_setCell_same _ _ _ _ _ _ (h.get (List.mem_of_getElem? hx))]
  congr 2
  simp
theorem Own.cell (h : Own B w L) (hx : x ∈ L) (i : Nat) : w.cell? ⟨x.at_, i, none⟩ = x.cells[i]? := by
  rw [cell_of_row _ _ _ _ _ _ (h.get hx)]; simp
theorem Own.frozen (h : Own B w L) (hx : x ∈ L) (i : Nat) : w.frozen? ⟨x.at_, i, none⟩ = false := frozen_of_row _ _ _ _ _ (h.get hx)
/-- What is below B stays as it is when one's own is written. -/
theorem below_write {a : World} (hb : Below B a w) {g i : Nat} (hg : B ≤ g) (v : Value) : Below B a (w.setCell ⟨g, i, none⟩ v) := hb.setCell (p := ⟨g, i, none⟩) hg v
end Go.Proofs.Ytfnpcfibgabmfaa.Owned
/- The contract of table.Clone, at any table whose lists are not beyond measure: the same data, in blocks of its own. -/
namespace Go.Proofs.Ytfnpcfibgabmfaa.Clone
open Go.ChangeShapes Go.WideShapes Go.ChangeAt Go.RowKit
open Tab Copy Owned
open May (chain infoP infoG infoD infoR infoB infoT)
set_option linter.unusedVariables false
set_option linter.unusedSimpArgs false

/-- A group whose rows are blocks of their own. -/
structure NG where
  r0 : List Int
  r1 : List Int
  b0 : Nat
  b1 : Nat
def NG.gr (g : NG) : Gr := ⟨g.r0, g.r1, ⟨some ⟨g.b0, 0, none⟩, g.r0.length⟩, ⟨some ⟨g.b1, 0, none⟩, g.r1.length⟩⟩
def NG.blks (g : NG) : List Blk := [⟨g.b0, g.r0.flatMap (fun n => [I n]), 3⟩, ⟨g.b1, g.r1.flatMap (fun n => [I n]), 3⟩]
structure Small (T : Tab) : Prop where
  groups : T.groups.length ≤ 1000
  rows : ∀ g ∈ T.groups, g.1.length ≤ 1000 ∧ g.2.length ≤ 1000
  dets : T.dets.length ≤ 1000
  rails : T.rails.length ≤ 1000
  buses : T.buses.length ≤ 1000

abbrev at0 (g n : Nat) : Sl := ⟨some ⟨g, 0, none⟩, n⟩
/-- Where a clone's parts lie. -/
def own (T : Tab) (ns : List NG) (G D R S : Nat) : List Blk :=
  ⟨G, (ns.map NG.gr).flatMap Gr.cells, 42⟩ :: ⟨D, T.dets.flatMap Det.cells, 44⟩ :: ⟨R, T.rails.flatMap Rl.cells, 46⟩ :: ⟨S, T.buses.flatMap Bs.cells, 48⟩ :: ns.flatMap NG.blks
def hd (T : Tab) (G D R S : Nat) : Hd := ⟨at0 G T.groups.length, at0 D T.dets.length, at0 R T.rails.length, at0 S T.buses.length⟩

theorem ng_ok {B : Nat} {w : World} {L : List Blk} {ns : List NG} (h : Own B w L) (hs : ∀ x ∈ ns.flatMap NG.blks, x ∈ L) (hl : ∀ g ∈ ns, g.r0.length ≤ maxLen ∧ g.r1.length ≤ maxLen) : ∀ g ∈ ns.map NG.gr, g.ok w := by
  intro g hg
  obtain ⟨n, hn, rfl⟩ := List.mem_map.1 hg
  have h0 := h.get (hs ⟨n.b0, n.r0.flatMap (fun n => [I n]), 3⟩ (List.mem_flatMap.2 ⟨n, hn, by simp [NG.blks]⟩))
  have h1 := h.get (hs ⟨n.b1, n.r1.flatMap (fun n => [I n]), 3⟩ (List.mem_flatMap.2 ⟨n, hn, by simp [NG.blks]⟩))
  exact ⟨row_of_block (n := 1) (enc := fun n => [I n]) (fun _ => rfl) _ h0 (hl n hn).1, row_of_block (n := 1) (enc := fun n => [I n]) (fun _ => rfl) _ h1 (hl n hn).2⟩
section
variable {T : Tab} {ns : List NG} {G D R S : Nat}
theorem own_g : (⟨G, (ns.map NG.gr).flatMap Gr.cells, 42⟩ : Blk) ∈ own T ns G D R S := List.mem_cons_self ..
theorem own_d : (⟨D, T.dets.flatMap Det.cells, 44⟩ : Blk) ∈ own T ns G D R S := List.mem_cons_of_mem _ (List.mem_cons_self ..)
theorem own_r : (⟨R, T.rails.flatMap Rl.cells, 46⟩ : Blk) ∈ own T ns G D R S := List.mem_cons_of_mem _ (List.mem_cons_of_mem _ (List.mem_cons_self ..))
theorem own_s : (⟨S, T.buses.flatMap Bs.cells, 48⟩ : Blk) ∈ own T ns G D R S := List.mem_cons_of_mem _ (List.mem_cons_of_mem _ (List.mem_cons_of_mem _ (List.mem_cons_self ..)))
end
/-- What a clone is. -/
theorem is_tab {B : Nat} {w : World} {T : Tab} {ns : List NG} {G D R S : Nat} (h1 : T.phases.length = 8) (h2 : T.conflict.length = 8) (h3 : T.flash.length = 8) (sm : Small T) (hd' : ns.map (fun g => (g.r0, g.r1)) = T.groups) (h : Own B w (own T ns G D R S)) : IsTab w (hd T G D R S) T := by
  have hm : (1000 : Nat) ≤ maxLen := by decide
  have hnl : ns.length = T.groups.length := by rw [← hd', List.length_map]
  refine ⟨h1, h2, h3, ⟨ns.map NG.gr, ?_, ?_, ?_⟩, ?_, ?_, ?_⟩
  · rw [← hd', List.map_map]; rfl
  · have := row_of_block (n := 2) (enc := Gr.cells) (fun _ => rfl) (ns.map NG.gr) (h.get own_g) (by rw [List.length_map, hnl]; exact Nat.le_trans sm.groups hm)
    rwa [List.length_map, hnl] at this
  · refine ng_ok h (fun x hx => by simp only [own, List.mem_cons]; exact .inr (.inr (.inr (.inr hx)))) (fun g hg => ?_)
    have := sm.rows (g.r0, g.r1) (by rw [← hd']; exact List.mem_map.2 ⟨g, hg, rfl⟩)
    exact ⟨Nat.le_trans this.1 hm, Nat.le_trans this.2 hm⟩
  · exact row_of_block (n := 7) (enc := Det.cells) (fun _ => rfl) _ (h.get own_d) (Nat.le_trans sm.dets hm)
  · exact row_of_block (n := 11) (enc := Rl.cells) (fun _ => rfl) _ (h.get own_r) (Nat.le_trans sm.rails hm)
  · exact row_of_block (n := 2) (enc := Bs.cells) (fun _ => rfl) _ (h.get own_s) (Nat.le_trans sm.buses hm)

/-! ### a table's cells, with a list moved -/
structure Eights (T : Tab) : Prop where
  p : T.phases.length = 8
  c : T.conflict.length = 8
  f : T.flash.length = 8
set_option maxRecDepth 10000 in
theorem Eights.tab {T : Tab} (k : Eights T) (h : Hd) (w : World) : CellsOk T h (T.cells h).toArray := by
  have h0 : IsTab w ⟨⟨none, 0⟩, ⟨none, 0⟩, ⟨none, 0⟩, ⟨none, 0⟩⟩ { T with groups := [], dets := [], rails := [], buses := [] } :=
    ⟨k.p, k.c, k.f, ⟨[], rfl, RowOf.nil w, fun g hg => by simp at hg⟩, RowOf.nil w, RowOf.nil w, RowOf.nil w⟩
  have := cells_ok h0
  obtain ⟨p0, p1, p2, p3, p4, p5, p6, p7, hp⟩ := eight k.p
  obtain ⟨c0, c1, c2, c3, c4, c5, c6, c7, hc⟩ := eight k.c
  obtain ⟨f0, f1, f2, f3, f4, f5, f6, f7, hf⟩ := eight k.f
  clear k
  obtain ⟨phases, groups, conflict, dets, rails, buses, extend, budget, start, revert, least, flash, window, share⟩ := T
  simp only at hp hc hf
  subst hp hc hf
  clear this h0
  constructor
  all_goals try rfl
  case one => simp [Tab.cells, Ph.cells, Value.oneCell']
  intro i p hp
  match i, hp with
  | 0, hp | 1, hp | 2, hp | 3, hp | 4, hp | 5, hp | 6, hp | 7, hp =>
    obtain rfl := Option.some.inj hp
    rfl
  | i + 8, hp => cases hp
theorem set_g {T : Tab} (k : Eights T) (h : Hd) (s : Sl) : (T.cells h).set 104 (s.val T.groups.length) = T.cells { h with g := s } := by
  obtain ⟨p0, p1, p2, p3, p4, p5, p6, p7, hp⟩ := eight k.p
  obtain ⟨phases, groups, conflict, dets, rails, buses, extend, budget, start, revert, least, flash, window, share⟩ := T
  simp only at hp
  subst hp
  rfl
theorem set_d {T : Tab} (k : Eights T) (h : Hd) (s : Sl) : (T.cells h).set 113 (s.val T.dets.length) = T.cells { h with d := s } := by
  obtain ⟨p0, p1, p2, p3, p4, p5, p6, p7, hp⟩ := eight k.p
  obtain ⟨c0, c1, c2, c3, c4, c5, c6, c7, hc⟩ := eight k.c
  obtain ⟨phases, groups, conflict, dets, rails, buses, extend, budget, start, revert, least, flash, window, share⟩ := T
  simp only at hp hc
  subst hp hc
  rfl
theorem set_r {T : Tab} (k : Eights T) (h : Hd) (s : Sl) : (T.cells h).set 114 (s.val T.rails.length) = T.cells { h with r := s } := by
  obtain ⟨p0, p1, p2, p3, p4, p5, p6, p7, hp⟩ := eight k.p
  obtain ⟨c0, c1, c2, c3, c4, c5, c6, c7, hc⟩ := eight k.c
  obtain ⟨phases, groups, conflict, dets, rails, buses, extend, budget, start, revert, least, flash, window, share⟩ := T
  simp only at hp hc
  subst hp hc
  rfl
theorem set_b {T : Tab} (k : Eights T) (h : Hd) (s : Sl) : (T.cells h).set 115 (s.val T.buses.length) = T.cells { h with b := s } := by
  obtain ⟨p0, p1, p2, p3, p4, p5, p6, p7, hp⟩ := eight k.p
  obtain ⟨c0, c1, c2, c3, c4, c5, c6, c7, hc⟩ := eight k.c
  obtain ⟨phases, groups, conflict, dets, rails, buses, extend, budget, start, revert, least, flash, window, share⟩ := T
  simp only at hp hc
  subst hp hc
  rfl
/-- The zero table. -/
def zPh : Ph := ⟨false, 0, 0, 0, 0, 0, 0, 0, 0, 0, 0, false, false⟩
def zTab : Tab := ⟨List.replicate 8 zPh, [], List.replicate 8 0, [], [], [], 0, 0, 0, 0, 0, List.replicate 8 0, 0, 0⟩
def zHd : Hd := ⟨⟨none, 0⟩, ⟨none, 0⟩, ⟨none, 0⟩, ⟨none, 0⟩⟩
theorem info31 : (Try.prog.info? 33).map (fun i => (i.zero, i.size)) = some (some (.agg (zTab.cells zHd).toArray), 131) := by kernel_rfl
theorem z_is (w : World) : IsTab w zHd zTab := ⟨rfl, rfl, rfl, ⟨[], rfl, RowOf.nil w, fun g hg => by simp at hg⟩, RowOf.nil w, RowOf.nil w, RowOf.nil w⟩
end Go.Proofs.Ytfnpcfibgabmfaa.Clone
/- The contract of table.Clone: the walk. -/
namespace Go.Proofs.Ytfnpcfibgabmfaa.Clone
open Go.ChangeShapes Go.WideShapes Go.ChangeAt Go.RowKit
open Tab Copy Owned
open May (chain infoP infoG infoD infoR infoB infoT take_succ')
set_option linter.unusedVariables false
set_option linter.unusedSimpArgs false

/-- The groups' block while it is being filled. -/
def mix (ns : List NG) (gs : List Gr) (k : Nat) : List Gr := ns.map NG.gr ++ gs.drop k
theorem mix_at {ns : List NG} {gs : List Gr} {k : Nat} {v : Gr} (hn : ns.length = k) (hv : gs[k]? = some v) : (mix ns gs k)[k]? = some v := by
  unfold mix
  rw [List.getElem?_append_right (by rw [List.length_map]; omega), List.length_map, hn, Nat.sub_self, List.getElem?_drop, Nat.add_zero, hv]
theorem mix_next {ns : List NG} {gs : List Gr} {k : Nat} {v : Gr} (n : NG) (hn : ns.length = k) (hv : gs[k]? = some v) :
    ((mix ns gs k).flatMap Gr.cells).take (k * 2) ++ n.gr.cells ++ ((mix ns gs k).flatMap Gr.cells).drop (k * 2 + 2) = (mix (ns ++ [n]) gs (k + 1)).flatMap Gr.cells := by
  have hk : k < gs.length := (List.getElem?_eq_some_iff.1 hv).1
  have hl : ((ns.map NG.gr).flatMap Gr.cells).length = k * 2 := by rw [flat_len (n := 2) (enc := Gr.cells) (fun _ => rfl), List.length_map, hn]
  have hd : gs.drop k = v :: gs.drop (k + 1) := by
    rw [List.drop_eq_getElem_cons hk]; congr 1
    exact (List.getElem?_eq_some_iff.1 hv).2
  unfold mix
  rw [hd, List.flatMap_append, List.flatMap_cons, List.take_left' hl, List.map_append, List.flatMap_append, List.flatMap_append]
  rw [show k * 2 + 2 = ((ns.map NG.gr).flatMap Gr.cells).length + v.cells.length by rw [hl]; rfl, ← List.append_assoc, List.drop_left' (by rw [List.length_append])]
  simp
def LL (T : Tab) (h1 : Hd) (N G : Nat) (zs : List Value) (ns : List NG) (gs : List Gr) (k : Nat) : List Blk :=
  ⟨G, (mix ns gs k).flatMap Gr.cells, 42⟩ :: ⟨N, T.cells h1, 33⟩ :: ⟨N + 1, zs, 33⟩ :: ns.flatMap NG.blks
theorem perm_next {T : Tab} {h1 : Hd} {N G : Nat} {zs : List Value} {ns : List NG} {gs : List Gr} {k : Nat} {cs : List Value} (n : NG) (e : cs = (mix (ns ++ [n]) gs (k + 1)).flatMap Gr.cells) :
    (LL T h1 N G zs (ns ++ [n]) gs (k + 1)).Perm (⟨G, cs, 42⟩ :: ⟨n.b1, n.r1.flatMap (fun n => [I n]), 3⟩ :: ⟨n.b0, n.r0.flatMap (fun n => [I n]), 3⟩ :: ⟨N, T.cells h1, 33⟩ :: ⟨N + 1, zs, 33⟩ :: ns.flatMap NG.blks) := by
  subst e
  unfold LL
  rw [List.flatMap_append, show List.flatMap NG.blks [n] = [⟨n.b0, n.r0.flatMap (fun n => [I n]), 3⟩, ⟨n.b1, n.r1.flatMap (fun n => [I n]), 3⟩] from rfl]
  refine List.Perm.cons _ ?_
  generalize (⟨n.b0, _, _⟩ : Blk) = x0
  generalize (⟨n.b1, _, _⟩ : Blk) = x1
  generalize (⟨N, _, _⟩ : Blk) = y0
  generalize (⟨N + 1, _, _⟩ : Blk) = y1
  generalize ns.flatMap NG.blks = L
  have a1 : (y0 :: y1 :: (L ++ [x0, x1])).Perm ([x0, x1] ++ (y0 :: y1 :: L)) := (List.perm_append_comm (l₁ := y0 :: y1 :: L) (l₂ := [x0, x1]))
  exact a1.trans (List.Perm.swap _ _ _)
/-- The phases of the region that fills one group. -/
def D5 (w : World) (B M : Nat) (L0 L1 L2 L3 : List Blk) (q : Nat) (w' : World) : Prop :=
  Below B w w' ∧ match q with
    | 0 => Own B w' L0 ∧ w'.heap.size = M + 1
    | 1 => Own B w' L1 ∧ w'.heap.size = M + 1 + 1
    | 2 => Own B w' L2 ∧ w'.heap.size = M + 1 + 1 + 1
    | _ => Own B w' L3
theorem D5.get {w w' : World} {B M q : Nat} {L0 L1 L2 L3 : List Blk} {x : Blk} (h : D5 w B M L0 L1 L2 L3 q w') (h0 : x ∈ L0) (h1 : x ∈ L1) (h2 : x ∈ L2) (h3 : x ∈ L3) : w'.heap[x.at_]? = some (.cells x.cells.toArray x.type (0, 0)) := by
  match q, h with
  | 0, ⟨_, h, _⟩ => exact h.get h0
  | 1, ⟨_, h, _⟩ => exact h.get h1
  | 2, ⟨_, h, _⟩ => exact h.get h2
  | _ + 3, ⟨_, h⟩ => exact h.get h3
theorem fresh_link {w w' : World} {sz : Nat} {L : List Blk} {a : Option Addr} {cap : Nat} {l : List Int} (hb : Below w.heap.size w w') (ho : Own w.heap.size w' L) (hs : w'.heap.size = sz) (hr : IntRow w ⟨a, cap⟩ l) (hl : l.length ≤ 1000) :
    Calls Try.prog 43 #[.slice a l.length cap] w' fun e w'' => e = .returned (.slice (some ⟨sz, 0, none⟩) l.length l.length) ∧ Below w.heap.size w w'' ∧ Own w.heap.size w'' (⟨sz, l.flatMap (fun n => [I n]), 3⟩ :: L) ∧ w''.heap.size = sz + 1 := by
  subst hs
  refine (freshI_any a cap l w' (hr.below hb) hl).mono ?_
  rintro e w'' ⟨rfl, hg, hb2, hz⟩
  exact ⟨rfl, hb.trans (hb2.mono hb.size), ho.add hb2 hg (Nat.le_refl _) hb.size, hz⟩
theorem mix_len {ns : List NG} {gs : List Gr} {k : Nat} (hn : ns.length = k) (hk : k ≤ gs.length) : ((mix ns gs k).flatMap Gr.cells).length = gs.length * 2 := by
  rw [flat_len (n := 2) (enc := Gr.cells) (fun _ => rfl)]
  unfold mix
  rw [List.length_append, List.length_map, List.length_drop]
  omega
theorem store_link {w w' : World} {L : List Blk} {G k : Nat} {ns : List NG} {gs : List Gr} {v : Gr} (hb : Below w.heap.size w w') (ho : Own w.heap.size w' L) (hx : L[3]? = some ⟨G, (mix ns gs k).flatMap Gr.cells, 42⟩) (hn : ns.length = k) (hv : gs[k]? = some v) (n : NG) :
    ∃ w'', (Instr.storeAt 42 (.pointer (some ⟨G, k * 2, none⟩)) (.agg n.gr.cells.toArray)).run Try.prog w' = .ok () w'' ∧ Below w.heap.size w w'' ∧ Own w.heap.size w'' (L.set 3 ⟨G, (mix (ns ++ [n]) gs (k + 1)).flatMap Gr.cells, 42⟩) := by
  have hk : k < gs.length := (List.getElem?_eq_some_iff.1 hv).1
  have h1 := Row.run_storeAt_at (P := Try.prog) w' G (k * 2) 42 42 _ n.gr.cells.toArray (ho.get (List.mem_of_getElem? hx)) infoG (by rw [List.size_toArray]; show k * 2 + 2 ≤ ((mix ns gs k).flatMap Gr.cells).length; rw [mix_len hn (by omega)]; omega) (Gr.one _)
  have h2 := mix_next n hn hv
  rw [show (k * 2 + n.gr.cells.toArray.size) = k * 2 + 2 from rfl] at h1
  dsimp only at h1
  rw [h2] at h1
  exact ⟨_, h1, below_setRow hb (ho.base (List.mem_of_getElem? hx)) _, ho.row_at hx _⟩
set_option maxRecDepth 10000 in
set_option maxHeartbeats 8000000 in
theorem clone_any (T : Tab) (h : Hd) (w : World) (kt : IsTab w h T) (sm : Small T) :
    Calls Try.prog 11 #[.agg (T.cells h).toArray] w fun e w' => ∃ (ns : List NG) (G D R S : Nat), e = .returned (.agg (T.cells (hd T G D R S)).toArray) ∧ ns.map (fun g => (g.r0, g.r1)) = T.groups ∧ Own w.heap.size w' (own T ns G D R S) ∧ Below w.heap.size w w' := by
  have K8 := Lib.hid (Eights.mk kt.ph kt.cf kt.fl)
  have hz := (zero_of_info info31).1
  have hzs : (zTab.cells zHd).toArray.size = 131 := (cells_ok (z_is w)).size
  have HZ1 := Lib.hid hzs
  obtain ⟨gs, hgd, hgr⟩ := kt.groups
  have Hgd := Lib.hid hgd
  have hgl : gs.length = T.groups.length := by rw [← hgd, List.length_map]
  have Hgl := Lib.hid hgl
  have Kg := hgr.1.len
  have C := Lib.hid (cells_ok kt)
  have hcz := C.out.size
  unfold maxLen at Kg
  have SM := Lib.hid sm
  have hlg : gs.length ≤ 1000 := by rw [hgl]; exact sm.groups
  have Hkt := Lib.hid kt
  have Hgr := Lib.hid hgr
  clear hgr sm kt hgd hzs hgl
  generalize hzz : (zTab.cells zHd).toArray = Z at hz HZ1
  go_enter Try.func11, Try.ntmps11
  go_upto_region 1 with fail
  have b0 : Below w.heap.size w ((w.alloc (.cells (T.cells h).toArray 33)).alloc (.cells Z 33)) := ((Below.refl _ _).alloc (Nat.le_refl _) _).alloc (by simp) _
  have o0 : Own w.heap.size ((w.alloc (.cells (T.cells h).toArray 33)).alloc (.cells Z 33)) [⟨w.heap.size, T.cells h, 33⟩, ⟨w.heap.size + 1, Z.toList, 33⟩] :=
    ⟨by simp, fun x hx => by
      simp only [List.mem_cons, List.not_mem_nil, or_false] at hx
      rcases hx with rfl | rfl
      · exact ⟨Nat.le_refl _, heap_alloc2_old w _ _⟩
      · exact ⟨Nat.le_succ _, heap_alloc2_new w _ _⟩⟩
  have O0 := Lib.hid o0
  have B0 := Lib.hid b0
  clear o0 b0
  generalize (w.alloc (.cells (T.cells h).toArray 33)).alloc (.cells Z 33) = w1 at O0 B0 ⊢
  generalize (T.cells h).toArray = cs0 at C hcz ⊢
  clear hz hcz
  have c104 : w1.cell? ⟨w.heap.size, 104, none⟩ = some (.slice h.g.a gs.length h.g.cap) := by
    have e1 := (K8.out.tab h w).g
    rw [List.getElem?_toArray] at e1
    rw [O0.out.cell (x := ⟨w.heap.size, T.cells h, 33⟩) (List.mem_cons_self ..), Hgl.out]
    exact e1
  go_wp2_with fail
  refine (freshG_any h.g.a h.g.cap gs _ (Hgr.out.1.below B0.out) hlg).mono ?_
  rintro e w2 ⟨rfl, hg, hb, hsz⟩
  have O1 := Lib.hid (O0.out.add hb hg (Nat.le_refl _) B0.out.size)
  have B1 := Lib.hid (B0.out.trans (hb.mono B0.out.size))
  have c2 : w2.cell? ⟨w.heap.size, 104, none⟩ = some (.slice h.g.a gs.length h.g.cap) := (hb.cell (World.block_lt_of_cell? _ _ c104)).trans c104
  have f2 : w2.frozen? ⟨w.heap.size, 104, none⟩ = false := O1.out.frozen (x := ⟨w.heap.size, T.cells h, 33⟩) (List.mem_cons_of_mem _ (List.mem_cons_self ..)) 104
  clear hg hb hsz c104 O0
  generalize hG : w1.heap.size = G at O1 ⊢
  have HG := Lib.hid hG
  clear hG
  go_wp2_with fail
  have hset := set_g K8.out h (at0 G gs.length)
  rw [← Hgl.out] at hset
  have O3 := O1.out.cell_at (i := 1) (x := ⟨w.heap.size, T.cells h, 33⟩) rfl 104 (.slice (some ⟨G, 0, none⟩) gs.length gs.length)
  have B3 := Lib.hid (below_write B1.out (Nat.le_refl _) (i := 104) (.slice (some ⟨G, 0, none⟩) gs.length gs.length))
  dsimp only [List.set_cons_succ, List.set_cons_zero] at O3
  rw [hset] at O3
  have O3 : Hid (Own w.heap.size _ (LL T { h with g := at0 G gs.length } w.heap.size G Z.toList [] gs 0)) := O3
  generalize World.setCell w2 _ _ = w3 at O3 B3 ⊢
  clear hset c2 f2 O1 B1
  have hc1 := (K8.out.tab { h with g := at0 G gs.length } w)
  have H104 : Hid ((T.cells { h with g := at0 G gs.length })[104]? = some (.slice (some ⟨G, 0, none⟩) gs.length gs.length)) := by have := hc1.g; rw [List.getElem?_toArray] at this; rw [this]; show some (Value.slice (some ⟨G, 0, none⟩) T.groups.length gs.length) = _; rw [← Hgl.out]
  have H113 : Hid ((T.cells { h with g := at0 G gs.length })[113]? = some (h.d.val T.dets.length)) := by have := hc1.d; rwa [List.getElem?_toArray] at this
  clear hc1
  generalize hh1 : ({ h with g := at0 G gs.length } : Hd) = h1 at O3 H104 H113
  have Hh1 := Lib.hid hh1
  clear hh1
  go_loopw [12] (fun i wr => ∃ (k : Nat) (ns : List NG), k ≤ gs.length ∧ i = .int .i64 k ∧ ns.length = k ∧ ns.map (fun g => (g.r0, g.r1)) = (gs.take k).map Gr.data ∧ Own w.heap.size wr (LL T h1 w.heap.size G Z.toList ns gs k) ∧ Below w.heap.size w wr) (fun i _ => gs.length - (intOf i).toNat)
  case atStart => exact ⟨0, [], Nat.zero_le _, rfl, rfl, rfl, O3.out, B3.out⟩
  case round =>
    clear O3 B3
    obtain ⟨k, ns, hk, rfl, hnl, hnd, ho, hb⟩ := hrel
    have O3 := Lib.hid ho
    have B3 := Lib.hid hb
    have ND := Lib.hid hnd
    have NL := Lib.hid hnl
    clear ho hb hnd hnl
    by_cases hlt : k < gs.length
    · have hv := List.getElem?_eq_getElem hlt
      generalize gs[k] = v at hv
      have HV := Lib.hid hv
      have hok := Hgr.out.2 v (List.mem_of_getElem? hv)
      have hsm := SM.out.rows v.data (by rw [← Hgd.out]; exact List.mem_map.2 ⟨v, List.mem_of_getElem? hv, rfl⟩)
      have HC : Hid (Lies wr ⟨G, k * 2, none⟩ v.cells) := fun j u hu => by
        rw [Addr.add_mid, cell_of_row _ _ _ _ _ _ (O3.out.get (List.mem_cons_self ..)), List.getElem?_toArray]
        exact flat_at (n := 2) (enc := Gr.cells) (fun _ => rfl) _ k v j u (mix_at NL.out hv) hu
      obtain ⟨l0, l1, ⟨a0, cap0⟩, ⟨a1, cap1⟩⟩ := v
      have H0 := Lib.hid hok.1
      have H1 := Lib.hid hok.2
      have S0 := Lib.hid hsm.1
      have S1 := Lib.hid hsm.2
      clear hv hok hsm
      go_wp2_with (first | (refine Row.wpList_load_lies rfl 42 _ rfl ⟨G, k * 2, none⟩ rfl (Gr.mk l0 l1 ⟨a0, cap0⟩ ⟨a1, cap1⟩).cells _ HC.out Try.underlying42 rfl infoG ?_) | (refine Row.wpList_store_new rfl 42 _ _ rfl _ _ (Gr.mk l0 l1 ⟨a0, cap0⟩ ⟨a1, cap1⟩).cells.toArray rfl rfl rfl infoG rfl (Gr.one _) ?_))
      have hbw : Below wr.heap.size wr (wr.alloc (.cells (Gr.mk l0 l1 ⟨a0, cap0⟩ ⟨a1, cap1⟩).cells.toArray 42)) := (Below.refl _ _).alloc (Nat.le_refl _) _
      have B4 := Lib.hid (B3.out.trans (hbw.mono B3.out.size))
      have O4 := Lib.hid (O3.out.add hbw (heap_alloc_new wr _) (Nat.le_refl _) B3.out.size)
      have HZ4 : Hid ((wr.alloc (.cells (Gr.mk l0 l1 ⟨a0, cap0⟩ ⟨a1, cap1⟩).cells.toArray 42)).heap.size = wr.heap.size + 1) := by show _ = _; simp
      clear hbw
      generalize wr.alloc (.cells (Gr.mk l0 l1 ⟨a0, cap0⟩ ⟨a1, cap1⟩).cells.toArray 42) = w4 at B4 O4 HZ4 ⊢
      generalize wr.heap.size = M at O4 HZ4 ⊢
      clear O3 B3 HC
      have HB5 : Hid (D5 w w.heap.size M (⟨M, (Gr.mk l0 l1 ⟨a0, cap0⟩ ⟨a1, cap1⟩).cells, 42⟩ :: LL T h1 w.heap.size G Z.toList ns gs k) (⟨M + 1, l0.flatMap (fun n => [I n]), 3⟩ :: ⟨M, (Gr.mk l0 l1 ⟨a0, cap0⟩ ⟨a1, cap1⟩).cells, 42⟩ :: LL T h1 w.heap.size G Z.toList ns gs k) (⟨M + 1 + 1, l1.flatMap (fun n => [I n]), 3⟩ :: ⟨M + 1, l0.flatMap (fun n => [I n]), 3⟩ :: ⟨M, (Gr.mk l0 l1 ⟨a0, cap0⟩ ⟨a1, cap1⟩).cells, 42⟩ :: LL T h1 w.heap.size G Z.toList ns gs k) (⟨M + 1 + 1, l1.flatMap (fun n => [I n]), 3⟩ :: ⟨M + 1, l0.flatMap (fun n => [I n]), 3⟩ :: ⟨M, (Gr.mk l0 l1 ⟨a0, cap0⟩ ⟨a1, cap1⟩).cells, 42⟩ :: ⟨G, (mix (ns ++ [⟨l0, l1, M + 1, M + 1 + 1⟩]) gs (k + 1)).flatMap Gr.cells, 42⟩ :: ⟨w.heap.size, T.cells h1, 33⟩ :: ⟨w.heap.size + 1, Z.toList, 33⟩ :: ns.flatMap NG.blks) 0 w4.drew) := ⟨B4.out.drew, O4.out.same rfl, HZ4.out⟩
      generalize hD : D5 w w.heap.size M (⟨M, (Gr.mk l0 l1 ⟨a0, cap0⟩ ⟨a1, cap1⟩).cells, 42⟩ :: LL T h1 w.heap.size G Z.toList ns gs k) (⟨M + 1, l0.flatMap (fun n => [I n]), 3⟩ :: ⟨M, (Gr.mk l0 l1 ⟨a0, cap0⟩ ⟨a1, cap1⟩).cells, 42⟩ :: LL T h1 w.heap.size G Z.toList ns gs k) (⟨M + 1 + 1, l1.flatMap (fun n => [I n]), 3⟩ :: ⟨M + 1, l0.flatMap (fun n => [I n]), 3⟩ :: ⟨M, (Gr.mk l0 l1 ⟨a0, cap0⟩ ⟨a1, cap1⟩).cells, 42⟩ :: LL T h1 w.heap.size G Z.toList ns gs k) (⟨M + 1 + 1, l1.flatMap (fun n => [I n]), 3⟩ :: ⟨M + 1, l0.flatMap (fun n => [I n]), 3⟩ :: ⟨M, (Gr.mk l0 l1 ⟨a0, cap0⟩ ⟨a1, cap1⟩).cells, 42⟩ :: ⟨G, (mix (ns ++ [⟨l0, l1, M + 1, M + 1 + 1⟩]) gs (k + 1)).flatMap Gr.cells, 42⟩ :: ⟨w.heap.size, T.cells h1, 33⟩ :: ⟨w.heap.size + 1, Z.toList, 33⟩ :: ns.flatMap NG.blks) = D at HB5
      have HD := Lib.hid hD
      have HM : Hid (∀ p : Ph.S D, p.world.heap[M]? = some (.cells (Gr.mk l0 l1 ⟨a0, cap0⟩ ⟨a1, cap1⟩).cells.toArray 42 (0, 0))) := by
        intro p
        have hp := Eq.mpr (congrFun (congrFun hD p.ph) p.world) p.is
        exact D5.get (x := ⟨M, (Gr.mk l0 l1 ⟨a0, cap0⟩ ⟨a1, cap1⟩).cells, 42⟩) hp (List.mem_cons_self ..) (List.mem_cons_of_mem _ (List.mem_cons_self ..)) (List.mem_cons_of_mem _ (List.mem_cons_of_mem _ (List.mem_cons_self ..))) (List.mem_cons_of_mem _ (List.mem_cons_of_mem _ (List.mem_cons_self ..)))
      have hn104 : ∀ p : Ph.S D, p.world.cell? ⟨w.heap.size, 104, none⟩ = some (.slice (some ⟨G, 0, none⟩) gs.length gs.length) := by
        intro p
        have hp := Eq.mpr (congrFun (congrFun hD p.ph) p.world) p.is
        have h2 : (⟨w.heap.size, T.cells h1, 33⟩ : Blk) ∈ LL T h1 w.heap.size G Z.toList ns gs k := List.mem_cons_of_mem _ (List.mem_cons_self ..)
        have h3 := D5.get (x := ⟨w.heap.size, T.cells h1, 33⟩) hp (List.mem_cons_of_mem _ h2) (List.mem_cons_of_mem _ (List.mem_cons_of_mem _ h2)) (List.mem_cons_of_mem _ (List.mem_cons_of_mem _ (List.mem_cons_of_mem _ h2))) (List.mem_cons_of_mem _ (List.mem_cons_of_mem _ (List.mem_cons_of_mem _ (List.mem_cons_of_mem _ (List.mem_cons_self ..)))))
        rw [cell_of_row _ _ _ _ _ _ h3, List.getElem?_toArray]
        exact H104.out
      have hm0 : ∀ p : Ph.S D, p.world.cell? ⟨M, 0, none⟩ = some (.slice a0 l0.length cap0) := fun p => by rw [cell_of_row _ _ _ _ _ _ (HM.out p)]; rfl
      have hm1 : ∀ p : Ph.S D, p.world.cell? ⟨M, 1, none⟩ = some (.slice a1 l1.length cap1) := fun p => by rw [cell_of_row _ _ _ _ _ _ (HM.out p)]; rfl
      have hne : Nonempty (Ph.S D) := ⟨⟨0, _, HB5.out⟩⟩
      clear hD
      refine Ph.wp_region_ph D [5, 8, 11] (by kernel_rfl) (by kernel_rfl) HB5.out ?_
      iterate 5
        (refine Ph.wpPh_calm rfl (fun K hK => ?_)
         go_simp
         refine hK _ ?_
         clear hK K)
      refine Ph.wpPh_link (p := 0) rfl (fun K hK => ?_)
      go_simp
      refine ⟨_, fun w' hd => (by rw [← HD.out] at hd ⊢; exact fresh_link hd.1 hd.2.1 hd.2.2 H0.out S0.out), hK _ ?_⟩
      clear hK K
      iterate 2
        (refine Ph.wpPh_calm rfl (fun K hK => ?_)
         go_simp
         refine hK _ ?_
         clear hK K)
      refine Ph.wpPh_link (p := 1) rfl (fun K hK => ?_)
      go_simp
      refine ⟨_, fun w' hd => (by rw [← HD.out] at hd ⊢; exact fresh_link hd.1 hd.2.1 hd.2.2 H1.out S1.out), hK _ ?_⟩
      clear hK K
      iterate 2
        (refine Ph.wpPh_calm rfl (fun K hK => ?_)
         go_simp
         refine hK _ ?_
         clear hK K)
      refine Row.wpPh_store (p := 2) rfl rfl 42 _ _ rfl (.pointer (some ⟨G, k * 2, none⟩)) (.agg (NG.mk l0 l1 (M + 1) (M + 1 + 1)).gr.cells.toArray) rfl rfl (fun w' hd => ?_) ?_
      · rw [← HD.out] at hd ⊢
        exact store_link hd.1 hd.2.1 rfl NL.out HV.out (NG.mk l0 l1 (M + 1) (M + 1 + 1))
      refine Ph.wpPh_nil ?_
      intro w5 hd5
      have B5 : Hid (Below w.heap.size w w5 ∧ Own w.heap.size w5 (LL T h1 w.heap.size G Z.toList (ns ++ [NG.mk l0 l1 (M + 1) (M + 1 + 1)]) gs (k + 1))) := by
        rw [← HD.out] at hd5
        refine ⟨hd5.1, ?_⟩
        have ho : Own w.heap.size w5 _ := hd5.2
        refine (ho.perm (M := ⟨M, (Gr.mk l0 l1 ⟨a0, cap0⟩ ⟨a1, cap1⟩).cells, 42⟩ :: _) (List.Perm.trans ?_ (List.perm_middle (l₁ := [_, _]) (l₂ := _)).symm)).tail
        exact List.Perm.cons _ ((perm_next (NG.mk l0 l1 (M + 1) (M + 1 + 1)) rfl).trans (List.perm_middle (l₁ := [_, _])).symm)
      clear hd5 hne hm0 hm1 hn104 HM HD HB5
      clear D
      go_wp2
      go_roundw
      case rel =>
        refine ⟨k + 1, ns ++ [NG.mk l0 l1 (M + 1) (M + 1 + 1)], by omega, by go_num, by rw [List.length_append, NL.out]; rfl, ?_, B5.out.2, B5.out.1⟩
        rw [List.map_append, ND.out, take_succ' gs k _ HV.out, List.map_append]
        rfl
      case measure => simp [intOf]; omega
    · have hkn : k = gs.length := by omega
      have hmix : mix ns gs k = ns.map NG.gr := by unfold mix; rw [List.drop_of_length_le (by omega), List.append_nil]
      have O5 : Hid (Own w.heap.size wr (⟨G, (ns.map NG.gr).flatMap Gr.cells, 42⟩ :: ⟨w.heap.size, T.cells h1, 33⟩ :: ⟨w.heap.size + 1, Z.toList, 33⟩ :: ns.flatMap NG.blks)) := by
        have := O3.out
        unfold LL at this
        rwa [hmix] at this
      have ND2 : Hid (ns.map (fun g => (g.r0, g.r1)) = T.groups) := by
        have := ND.out
        rwa [List.take_of_length_le (by omega), Hgd.out] at this
      clear hkn hmix O3 ND H104
      have c113 : wr.cell? ⟨w.heap.size, 113, none⟩ = some (.slice h.d.a T.dets.length h.d.cap) := by rw [O5.out.cell (x := ⟨w.heap.size, T.cells h1, 33⟩) (List.mem_cons_of_mem _ (List.mem_cons_self ..))]; exact H113.out
      go_wp2_with fail
      refine (freshD_any h.d.a h.d.cap T.dets _ (Hkt.out.dets.below B3.out) SM.out.dets).mono ?_
      rintro e v1 ⟨rfl, hg, hb, hsz⟩
      have P1 := Lib.hid (O5.out.add hb hg (Nat.le_refl _) B3.out.size)
      have C1 := Lib.hid (B3.out.trans (hb.mono B3.out.size))
      have d113 : v1.cell? ⟨w.heap.size, 113, none⟩ = some (.slice h.d.a T.dets.length h.d.cap) := (hb.cell (World.block_lt_of_cell? _ _ c113)).trans c113
      have f113 : v1.frozen? ⟨w.heap.size, 113, none⟩ = false := P1.out.frozen (x := ⟨w.heap.size, T.cells h1, 33⟩) (by simp only [List.mem_cons, true_or, or_true]) 113
      clear hg hb hsz c113 O5
      generalize hL : (World.heap wr).size = D at P1 ⊢
      clear hL
      go_upto_region 8 with fail
      have hset := set_d K8.out h1 (at0 D T.dets.length)
      have q1 := P1.out.cell_at (i := 2) (x := ⟨w.heap.size, T.cells h1, 33⟩) rfl 113 (.slice (some ⟨D, 0, none⟩) T.dets.length T.dets.length)
      have E1 := Lib.hid (below_write C1.out (Nat.le_refl _) (i := 113) (.slice (some ⟨D, 0, none⟩) T.dets.length T.dets.length))
      dsimp only [List.set_cons_succ, List.set_cons_zero] at q1
      rw [show (T.cells h1).set 113 (Value.slice (some ⟨D, 0, none⟩) T.dets.length T.dets.length) = T.cells (Hd.mk h1.g (at0 D T.dets.length) h1.r h1.b) from hset] at q1
      have Q1 := Lib.hid q1
      clear q1 hset d113 f113 P1 C1
      generalize World.setCell v1 _ _ = x1 at Q1 E1 ⊢
      have c114 : x1.cell? ⟨w.heap.size, 114, none⟩ = some (.slice h.r.a T.rails.length h.r.cap) := by
        have e1 := (K8.out.tab (Hd.mk h1.g (at0 D T.dets.length) h1.r h1.b) w).r
        rw [List.getElem?_toArray] at e1
        rw [Q1.out.cell (x := ⟨w.heap.size, T.cells (Hd.mk h1.g (at0 D T.dets.length) h1.r h1.b), 33⟩) (by simp only [List.mem_cons, true_or, or_true])]
        rw [show (T.cells (Hd.mk h1.g (at0 D T.dets.length) h1.r h1.b))[114]? = _ from e1, ← Hh1.out]
      go_wp2_with fail
      refine (freshR_any h.r.a h.r.cap T.rails _ (Hkt.out.rails.below E1.out) SM.out.rails).mono ?_
      rintro e v2 ⟨rfl, hg, hb, hsz⟩
      have P2 := Lib.hid (Q1.out.add hb hg (Nat.le_refl _) E1.out.size)
      have C2 := Lib.hid (E1.out.trans (hb.mono E1.out.size))
      have d114 : v2.cell? ⟨w.heap.size, 114, none⟩ = some (.slice h.r.a T.rails.length h.r.cap) := (hb.cell (World.block_lt_of_cell? _ _ c114)).trans c114
      have f114 : v2.frozen? ⟨w.heap.size, 114, none⟩ = false := P2.out.frozen (x := ⟨w.heap.size, T.cells (Hd.mk h1.g (at0 D T.dets.length) h1.r h1.b), 33⟩) (by simp only [List.mem_cons, true_or, or_true]) 114
      clear hg hb hsz c114 Q1
      generalize hL : (World.heap x1).size = R at P2 ⊢
      clear hL
      go_upto_region 9 with fail
      have hset := set_r K8.out (Hd.mk h1.g (at0 D T.dets.length) h1.r h1.b) (at0 R T.rails.length)
      have q2 := P2.out.cell_at (i := 3) (x := ⟨w.heap.size, T.cells (Hd.mk h1.g (at0 D T.dets.length) h1.r h1.b), 33⟩) rfl 114 (.slice (some ⟨R, 0, none⟩) T.rails.length T.rails.length)
      have E2 := Lib.hid (below_write C2.out (Nat.le_refl _) (i := 114) (.slice (some ⟨R, 0, none⟩) T.rails.length T.rails.length))
      dsimp only [List.set_cons_succ, List.set_cons_zero] at q2
      rw [show (T.cells (Hd.mk h1.g (at0 D T.dets.length) h1.r h1.b)).set 114 (Value.slice (some ⟨R, 0, none⟩) T.rails.length T.rails.length) = T.cells (Hd.mk h1.g (at0 D T.dets.length) (at0 R T.rails.length) h1.b) from hset] at q2
      have Q2 := Lib.hid q2
      clear q2 hset d114 f114 P2 C2
      generalize World.setCell v2 _ _ = x2 at Q2 E2 ⊢
      have c115 : x2.cell? ⟨w.heap.size, 115, none⟩ = some (.slice h.b.a T.buses.length h.b.cap) := by
        have e1 := (K8.out.tab (Hd.mk h1.g (at0 D T.dets.length) (at0 R T.rails.length) h1.b) w).b
        rw [List.getElem?_toArray] at e1
        rw [Q2.out.cell (x := ⟨w.heap.size, T.cells (Hd.mk h1.g (at0 D T.dets.length) (at0 R T.rails.length) h1.b), 33⟩) (by simp only [List.mem_cons, true_or, or_true])]
        rw [show (T.cells (Hd.mk h1.g (at0 D T.dets.length) (at0 R T.rails.length) h1.b))[115]? = _ from e1, ← Hh1.out]
      go_wp2_with fail
      refine (freshB_any h.b.a h.b.cap T.buses _ (Hkt.out.buses.below E2.out) SM.out.buses).mono ?_
      rintro e v3 ⟨rfl, hg, hb, hsz⟩
      have P3 := Lib.hid (Q2.out.add hb hg (Nat.le_refl _) E2.out.size)
      have C3 := Lib.hid (E2.out.trans (hb.mono E2.out.size))
      have d115 : v3.cell? ⟨w.heap.size, 115, none⟩ = some (.slice h.b.a T.buses.length h.b.cap) := (hb.cell (World.block_lt_of_cell? _ _ c115)).trans c115
      have f115 : v3.frozen? ⟨w.heap.size, 115, none⟩ = false := P3.out.frozen (x := ⟨w.heap.size, T.cells (Hd.mk h1.g (at0 D T.dets.length) (at0 R T.rails.length) h1.b), 33⟩) (by simp only [List.mem_cons, true_or, or_true]) 115
      clear hg hb hsz c115 Q2
      generalize hL : (World.heap x2).size = S at P3 ⊢
      clear hL
      go_upto_region 10 with fail
      have hset := set_b K8.out (Hd.mk h1.g (at0 D T.dets.length) (at0 R T.rails.length) h1.b) (at0 S T.buses.length)
      have q3 := P3.out.cell_at (i := 4) (x := ⟨w.heap.size, T.cells (Hd.mk h1.g (at0 D T.dets.length) (at0 R T.rails.length) h1.b), 33⟩) rfl 115 (.slice (some ⟨S, 0, none⟩) T.buses.length T.buses.length)
      have E3 := Lib.hid (below_write C3.out (Nat.le_refl _) (i := 115) (.slice (some ⟨S, 0, none⟩) T.buses.length T.buses.length))
      dsimp only [List.set_cons_succ, List.set_cons_zero] at q3
      rw [show (T.cells (Hd.mk h1.g (at0 D T.dets.length) (at0 R T.rails.length) h1.b)).set 115 (Value.slice (some ⟨S, 0, none⟩) T.buses.length T.buses.length) = T.cells (Hd.mk h1.g (at0 D T.dets.length) (at0 R T.rails.length) (at0 S T.buses.length)) from hset] at q3
      have Q3 := Lib.hid q3
      clear q3 hset d115 f115 P3 C3
      generalize World.setCell v3 _ _ = x3 at Q3 E3 ⊢
      have c4 := K8.out.tab (Hd.mk h1.g (at0 D T.dets.length) (at0 R T.rails.length) (at0 S T.buses.length)) w
      have HN := Lib.hid (Q3.out.get (x := ⟨w.heap.size, T.cells (Hd.mk h1.g (at0 D T.dets.length) (at0 R T.rails.length) (at0 S T.buses.length)), 33⟩) (by simp only [List.mem_cons, true_or, or_true]))
      have HN1 := Lib.hid (Q3.out.get (x := ⟨w.heap.size + 1, Z.toList, 33⟩) (by simp only [List.mem_cons, true_or, or_true]))
      have SZ := Lib.hid c4.size
      have ON := Lib.hid c4.one
      clear c4
      have QW := Lib.hid (Q3.out.row_at (i := 5) (x := ⟨w.heap.size + 1, Z.toList, 33⟩) rfl (T.cells (Hd.mk h1.g (at0 D T.dets.length) (at0 R T.rails.length) (at0 S T.buses.length))))
      have EW := Lib.hid (below_setRow E3.out (Nat.le_succ w.heap.size) (T.cells (Hd.mk h1.g (at0 D T.dets.length) (at0 R T.rails.length) (at0 S T.buses.length))).toArray)
      have hfin : (hd T G D R S) = (Hd.mk h1.g (at0 D T.dets.length) (at0 R T.rails.length) (at0 S T.buses.length)) := by rw [← Hh1.out]; unfold hd; rw [← Hgl.out]
      have HF := Lib.hid hfin
      clear hfin Q3 E3
      generalize hcs4 : T.cells (Hd.mk h1.g (at0 D T.dets.length) (at0 R T.rails.length) (at0 S T.buses.length)) = cs4 at HN SZ ON QW EW
      have HC4 := Lib.hid hcs4
      clear hcs4
      go_wp2_with (first | (refine wpList_load_row rfl 33 _ rfl w.heap.size rfl _ _ _ _ HN.out Try.underlying33 rfl (by rw [SZ.out]; exact infoT) ?_) | (refine wpList_store_row rfl 33 _ _ rfl (w.heap.size + 1) cs4.toArray rfl rfl 33 _ HN1.out (by rw [SZ.out]; exact infoT) (by rw [SZ.out]; show Z.toList.toArray.size = 131; rw [List.size_toArray, Array.length_toList]; exact HZ1.out) ON.out ?_))
      (try dsimp only at QW)
      (try dsimp only at EW)
      generalize World.setRow x3 _ _ = x4 at QW EW ⊢
      go_wp2_with fail
      (try simp only [Exit.inBlock, Exit.then])
      refine bodyPost_ret (v := .agg cs4.toArray) ?_ rfl ⟨ns, G, D, R, S, by rw [HF.out, HC4.out], ND2.out, ?_, EW.out⟩
      · exact results_cell_row rfl _ _ (w.heap.size + 1) 33 cs4.toArray (0, 0) _ rfl (QW.out.get (x := ⟨w.heap.size + 1, cs4, 33⟩) (by simp only [List.set_cons_succ, List.set_cons_zero, List.mem_cons, true_or, or_true])) Try.underlying33 rfl (by rw [SZ.out]; exact infoT)
      · have hq := QW.out
        try dsimp only [List.set_cons_succ, List.set_cons_zero] at hq
        exact (hq.perm (M := [_, _, _, _, _, _].reverse ++ _) (List.Perm.append_right _ (List.reverse_perm _))).tail.tail
end Go.Proofs.Ytfnpcfibgabmfaa.Clone
/- A type's cells in order ('flat'): a value that can be read is typed cell by cell; two values of the type are compared cell by cell. No program in it. -/
namespace Go.Proofs.Ytfnpcfibgabmfaa.Flat
open Go Go.ChangeShapes Go.WideShapes

section
variable {α β : Type}
def All2 (R : α → β → Prop) : List α → List β → Prop
  | [], [] => True
  | a :: l, b :: m => R a b ∧ All2 R l m
  | _, _ => False
variable {R : α → β → Prop}
theorem All2.length : ∀ {a : List α} {b : List β}, All2 R a b → a.length = b.length
  | [], [], _ => rfl
  | _ :: _, _ :: _, ⟨_, h⟩ => by simp [All2.length h]
  | [], _ :: _, h => h.elim
  | _ :: _, [], h => h.elim
theorem All2.append : ∀ {a : List α} {b : List β} {c : List α} {d : List β}, All2 R a b → All2 R c d → All2 R (a ++ c) (b ++ d)
  | [], [], _, _, _, h => h
  | _ :: _, _ :: _, _, _, ⟨h, k⟩, h2 => ⟨h, All2.append k h2⟩
  | [], _ :: _, _, _, h, _ => h.elim
  | _ :: _, [], _, _, h, _ => h.elim
theorem All2.split : ∀ {a c : List α} {b : List β}, All2 R (a ++ c) b → All2 R a (b.take a.length) ∧ All2 R c (b.drop a.length)
  | [], _, _, h => ⟨trivial, h⟩
  | _ :: _, _, _ :: _, ⟨h, k⟩ => ⟨⟨h, (All2.split k).1⟩, (All2.split k).2⟩
  | _ :: _, _, [], h => h.elim
theorem All2.at : ∀ {a : List α} {b : List β}, All2 R a b → ∀ {i : Nat} {x : α} {y : β}, a[i]? = some x → b[i]? = some y → R x y
  | _ :: _, _ :: _, ⟨h, _⟩, 0, _, _, h1, h2 => by simp at h1 h2; subst h1 h2; exact h
  | _ :: _, _ :: _, ⟨_, k⟩, i + 1, _, _, h1, h2 => All2.at k (i := i) (by simpa using h1) (by simpa using h2)
  | [], _, _, _, _, _, h1, _ => by simp at h1
  | _ :: _, [], h, _, _, _, _, _ => h.elim
theorem All2.mono {S : α → β → Prop} (hm : ∀ x y, R x y → S x y) : ∀ {a : List α} {b : List β}, All2 R a b → All2 S a b
  | [], [], _ => trivial
  | _ :: _, _ :: _, ⟨h, k⟩ => ⟨hm _ _ h, All2.mono hm k⟩
  | [], _ :: _, h => h.elim
  | _ :: _, [], h => h.elim
end

def rowT (P : Program) (t : TypeId) : Bool := match P.underlying t with | some (.struct _) | some (.array _ _) => true | _ => false
def flatF (P : Program) (g : TypeId → Option (List TypeId)) : Nat → List Field → Option (List TypeId)
  | _, [] => some []
  | o, f :: fs => if f.name ≠ "_" ∧ f.offset = o then
      match g f.type with
      | some r => if r.length = P.cellsOf f.type then (flatF P g (o + r.length) fs).map (r ++ ·) else none
      | none => none
    else none
/-- The one-cell types that lie in a type, in order; none where its parts do not lie side by side. -/
def flat (P : Program) : Nat → TypeId → Option (List TypeId)
  | 0, _ => none
  | d + 1, t => match P.underlying t with
    | some (.struct fs) => if P.stoodInHeld t = true then none else match flatF P (flat P d) 0 fs.toList with
      | some l => if l.length = P.cellsOf t then some l else none
      | none => none
    | some (.array n e) => match flat P d e with
      | some r => if r.length = P.cellsOf e ∧ n * P.cellsOf e = P.cellsOf t then some (List.replicate n r).flatten else none
      | none => none
    | some _ => if P.cellsOf t = 1 then some [t] else none
    | none => none
theorem flatF_cons {P : Program} {g : TypeId → Option (List TypeId)} {o : Nat} {f : Field} {fs : List Field} {l : List TypeId} (h : flatF P g o (f :: fs) = some l) :
    f.name ≠ "_" ∧ f.offset = o ∧ ∃ r l', g f.type = some r ∧ r.length = P.cellsOf f.type ∧ flatF P g (o + r.length) fs = some l' ∧ l = r ++ l' := by
  unfold flatF at h
  split at h
  · rename_i h1
    split at h
    · rename_i r hr
      split at h
      · rename_i hl
        simp only [Option.map_eq_some_iff] at h
        obtain ⟨l', h2, rfl⟩ := h
        exact ⟨h1.1, h1.2, r, l', hr, hl, h2, rfl⟩
      · cases h
    · cases h
  · cases h
theorem take_two {α : Type} (l : List α) (o a b : Nat) : (l.drop o).take (a + b) = (l.drop o).take a ++ (l.drop (o + a)).take b := by
  rw [List.take_add, List.drop_drop]

section
variable {P : Program} {R : TypeId → Value → Prop} {G : TypeId → List Value → Prop} {g : TypeId → Option (List TypeId)}
theorem fields_flat (hg : ∀ t ts cs, g t = some ts → G t cs → All2 R ts cs) (cs : List Value) : ∀ (fs : List Field) (o : Nat) (l : List TypeId), flatF P g o fs = some l →
    (∀ f ∈ fs, G f.type ((cs.drop f.offset).take (P.cellsOf f.type))) → All2 R l ((cs.drop o).take l.length)
  | [], _, l, h, _ => by
    simp only [flatF, Option.some.injEq] at h
    subst h; simp [All2]
  | f :: fs, o, l, h, hall => by
    obtain ⟨_, ho, r, l', h1, h2, h3, rfl⟩ := flatF_cons h
    have h4 := hg _ _ _ h1 (hall f (by simp))
    rw [ho, ← h2] at h4
    rw [List.length_append, take_two]
    exact h4.append (fields_flat hg cs fs _ _ h3 fun f hf => hall f (by simp [hf]))
theorem items_flat {c : Nat} {e : TypeId} {r : List TypeId} (hg : ∀ cs, G e cs → All2 R r cs) (cs : List Value) : ∀ (n k : Nat), (∀ i, i < n → G e ((cs.drop ((k + i) * c)).take c)) →
    All2 R (List.replicate n r).flatten ((cs.drop (k * c)).take (n * c))
  | 0, _, _ => by simp [All2]
  | n + 1, k, h => by
    rw [List.replicate_succ, List.flatten_cons, Nat.add_mul, Nat.one_mul, Nat.add_comm (n * c) c, take_two]
    refine (hg _ (by simpa using h 0 (by omega))).append ?_
    have := items_flat hg cs n (k + 1) (fun i hi => by have := h (i + 1) (by omega); rwa [show k + (i + 1) = k + 1 + i by omega] at this)
    rwa [Nat.add_mul, Nat.one_mul] at this
end

section
variable {H : Type} {enc : TypeId × Value → H} {P : Program} {w : World} {base : Nat} {spare : Nat → Bool} {held : Bool}
theorem trod_one {t : TypeId} {n : Nat} {cs : List Value} {x : DataW H × List MemPlace} {d : TypeDesc} (hu : P.underlying t = some d) (hd : rowT P t = false) (h : DataW.trod enc P w base spare held n t cs = some x) : ∃ v, cs = [v] := by
  cases n with
  | zero => simp [DataW.trod] at h
  | succ n =>
    unfold DataW.trod at h
    unfold rowT at hd
    rw [hu] at h hd
    split at h <;> first | exact ⟨_, rfl⟩ | (simp_all; done)
/-- A value that can be read: each of its cells can be read as its own type. -/
theorem trod_flat : ∀ (d : Nat) (t : TypeId) (ts : List TypeId), flat P d t = some ts → ∀ (n : Nat) (cs : List Value) (x : DataW H × List MemPlace), DataW.trod enc P w base spare held n t cs = some x →
    All2 (fun t v => ∃ n y, DataW.trod enc P w base spare held n t [v] = some y) ts cs
  | 0, _, _, h, _, _, _, _ => by simp [flat] at h
  | d + 1, t, ts, h, n, cs, x, hx => by
    unfold flat at h
    split at h
    · rename_i fs hu
      split at h
      · cases h
      · split at h
        · rename_i l hl
          split at h
          · rename_i hlen
            simp only [Option.some.injEq] at h; subst h
            obtain ⟨xs, m, _, _, hcl, hxl, hf⟩ := DataW.trod_struct hu hx
            have := fields_flat (P := P) (G := fun t cs => ∃ n y, DataW.trod enc P w base spare held n t cs = some y) (g := flat P d) (fun t ts cs h ⟨n, y, hy⟩ => trod_flat d t ts h n cs y hy) cs fs.toList 0 l hl (fun f hf' => by
              obtain ⟨i, hi⟩ := List.getElem?_of_mem hf'
              have h1 := hf i f (by simpa using hi)
              have h2 : i < xs.length := by
                have := (List.getElem?_eq_some_iff.1 hi).1
                simp at this; omega
              rw [List.getElem?_eq_getElem h2] at h1
              exact ⟨m, _, h1⟩)
            rw [List.drop_zero, hlen, ← hcl, List.take_length] at this
            exact this
          · cases h
        · cases h
    · rename_i k e hu
      split at h
      · rename_i r hr
        split at h
        · rename_i hlen
          simp only [Option.some.injEq] at h; subst h
          obtain ⟨xs, m, _, _, hcl, hxl, hf⟩ := DataW.trod_array hu hx
          have := items_flat (c := P.cellsOf e) (e := e) (r := r) (G := fun t cs => ∃ n y, DataW.trod enc P w base spare held n t cs = some y) (fun cs ⟨n, y, hy⟩ => trod_flat d e r hr n cs y hy) cs k 0 (fun i hi => by
            have h1 := hf i hi
            rw [List.getElem?_eq_getElem (by omega)] at h1
            exact ⟨m, _, by simpa using h1⟩)
          rw [Nat.zero_mul, List.drop_zero, hlen.2, ← hcl, List.take_length] at this
          exact this
        · cases h
      · cases h
    · rename_i dd hns hna hu
      split at h
      · simp only [Option.some.injEq] at h; subst h
        obtain ⟨v, rfl⟩ := trod_one hu (by unfold rowT; rw [hu]; cases dd <;> simp_all) hx
        exact ⟨⟨n, x, hx⟩, trivial⟩
      · cases h
    · cases h
end

/-! ### comparing -/
section
variable {P : Program}
def vOf (P : Program) (t : TypeId) (cs : List Value) : Value := if rowT P t then .agg cs.toArray else cs.headD undef
/-- Two cells of a type of one cell: '==' is equality. -/
def LeafEq (P : Program) (t : TypeId) (p : Value × Value) : Prop := ∃ b : Bool, (∀ D w, (Op.equalIn (D + 1) t p.1 p.2).run P w = .ok b w) ∧ (b = true ↔ p.1 = p.2)
theorem leaf_int {t : TypeId} {k : IntKind} (h : P.underlying t = some (.int k)) (a b : Int) : LeafEq P t (.int k a, .int k b) := ⟨a == b, fun D w => run_equalIn_int w D t k k a b h, by simp⟩
theorem leaf_bool {t : TypeId} (h : P.underlying t = some .bool) (a b : Bool) : LeafEq P t (.bool a, .bool b) := ⟨a == b, fun D w => run_equalIn_bool w D t a b h, by simp⟩

theorem run_part (w : World) {t : TypeId} {d : TypeDesc} (hu : P.underlying t = some d) (hc : rowT P t = false → P.cellsOf t = 1) (cs : List Value) (off : Nat) (hl : off + P.cellsOf t ≤ cs.length) :
    (part t cs.toArray off).run P w = .ok (vOf P t ((cs.drop off).take (P.cellsOf t))) w := by
  obtain ⟨i, hi⟩ := info_of_underlying hu
  have hagg : (isAgg t).run P w = .ok (rowT P t) w := by
    unfold isAgg rowT
    rw [Sem.run_bind, run_underlying hu w]
    rw [hu]
    cases d <;> simp
  unfold part vOf
  rw [Sem.run_bind, hagg, Result.andThen_ok]
  cases hr : rowT P t with
  | true =>
    simp only [if_true, Sem.run_bind, run_sizeOf w hi, Result.andThen_ok, Sem.run_pure]
    congr 2
    simp [List.extract]
  | false =>
    have h1 := hc hr
    have h2 : off < cs.length := by omega
    simp only [Bool.false_eq_true, if_false, List.getElem?_toArray, List.getElem?_eq_getElem h2, Sem.run_pure, h1]
    have h3 : (cs.drop off).take 1 = [cs[off]] := by rw [List.drop_eq_getElem_cons h2]; rfl
    rw [h3]
    simp

theorem cells_one {d : Nat} {t : TypeId} {ts : List TypeId} (h : flat P d t = some ts) : (∃ dd, P.underlying t = some dd) ∧ (rowT P t = false → P.cellsOf t = 1) := by
  cases d with
  | zero => simp [flat] at h
  | succ d =>
    unfold flat at h
    unfold rowT
    split at h
    · rename_i hu; exact ⟨⟨_, hu⟩, by rw [hu]; simp⟩
    · rename_i hu; exact ⟨⟨_, hu⟩, by rw [hu]; simp⟩
    · rename_i hu
      split at h
      · rename_i h1; exact ⟨⟨_, hu⟩, fun _ => h1⟩
      · cases h
    · cases h

def EqG (P : Program) (D : Nat) (g : TypeId → Option (List TypeId)) : Prop := ∀ (t : TypeId) (ts : List TypeId) (zs : List (Value × Value)), g t = some ts → All2 (LeafEq P) ts zs →
  ∃ b : Bool, (∀ w, (Op.equalIn D t (vOf P t (zs.map (·.1))) (vOf P t (zs.map (·.2)))).run P w = .ok b w) ∧ (b = true ↔ zs.map (·.1) = zs.map (·.2))

theorem map_part {γ : Type} (f : Value × Value → γ) (zs : List (Value × Value)) (o n : Nat) : ((zs.map f).drop o).take n = ((zs.drop o).take n).map f := by
  rw [← List.map_drop, ← List.map_take]

theorem fields_eq {D d : Nat} (hg : EqG P D (flat P d)) (zs : List (Value × Value)) : ∀ (fs : List Field) (o : Nat) (l : List TypeId), flatF P (flat P d) o fs = some l → o + l.length ≤ zs.length →
    All2 (LeafEq P) l ((zs.drop o).take l.length) →
    ∃ b : Bool, (∀ w, (Op.eqFields D (zs.map (·.1)).toArray (zs.map (·.2)).toArray fs).run P w = .ok b w) ∧ (b = true ↔ ((zs.drop o).take l.length).map (·.1) = ((zs.drop o).take l.length).map (·.2))
  | [], _, l, h, _, _ => by
    simp only [flatF, Option.some.injEq] at h
    subst h
    exact ⟨true, fun w => by simp [Op.eqFields], by simp⟩
  | f :: fs, o, l, h, hlen, hall => by
    obtain ⟨hn, ho, r, l', h1, h2, h3, rfl⟩ := flatF_cons h
    obtain ⟨⟨dd, hu⟩, hone⟩ := cells_one h1
    rw [List.length_append] at hlen hall ⊢
    rw [take_two] at hall ⊢
    have hs := hall.split
    have hlr : ((zs.drop o).take r.length).length = r.length := by simp; omega
    rw [List.take_left' hlr, List.drop_left' hlr] at hs
    obtain ⟨b, hb, hiff⟩ := hg f.type r _ h1 hs.1
    obtain ⟨b', hb', hiff'⟩ := fields_eq hg zs fs (o + r.length) l' h3 (by omega) hs.2
    have p1 := fun w => run_part (P := P) w hu hone (zs.map (·.1)) f.offset (by simp; omega)
    have p2 := fun w => run_part (P := P) w hu hone (zs.map (·.2)) f.offset (by simp; omega)
    rw [ho, ← h2] at p1 p2
    simp only [map_part] at p1 p2
    refine ⟨b && b', fun w => ?_, ?_⟩
    · simp only [Op.eqFields, hn, ne_eq, not_false_eq_true, if_true, Sem.run_bind, ho, p1, p2, hb, Result.andThen_ok]
      cases b
      · simp
      · simpa using hb' w
    · rw [Bool.and_eq_true, hiff, hiff', List.map_append, List.map_append]
      constructor
      · rintro ⟨e1, e2⟩; rw [e1, e2]
      · intro e; exact List.append_inj e (by simp)
theorem items_eq {D d : Nat} (hg : EqG P D (flat P d)) {e : TypeId} {r : List TypeId} (hr : flat P d e = some r) (hc : r.length = P.cellsOf e) (zs : List (Value × Value)) : ∀ (n k : Nat), (k + n) * P.cellsOf e ≤ zs.length →
    All2 (LeafEq P) (List.replicate n r).flatten ((zs.drop (k * P.cellsOf e)).take (n * P.cellsOf e)) →
    ∃ b : Bool, (∀ w, (Op.eqItems D e (P.cellsOf e) (zs.map (·.1)).toArray (zs.map (·.2)).toArray (List.range' k n)).run P w = .ok b w) ∧
      (b = true ↔ ((zs.drop (k * P.cellsOf e)).take (n * P.cellsOf e)).map (·.1) = ((zs.drop (k * P.cellsOf e)).take (n * P.cellsOf e)).map (·.2))
  | 0, k, _, _ => ⟨true, fun w => by simp [Op.eqItems], by simp⟩
  | n + 1, k, hlen, hall => by
    obtain ⟨⟨dd, hu⟩, hone⟩ := cells_one hr
    have hlen' : k * P.cellsOf e + P.cellsOf e + n * P.cellsOf e ≤ zs.length := by
      have : (k + (n + 1)) * P.cellsOf e = k * P.cellsOf e + P.cellsOf e + n * P.cellsOf e := by
        rw [Nat.add_mul, Nat.add_mul, Nat.one_mul]; omega
      omega
    rw [List.replicate_succ, List.flatten_cons] at hall
    rw [Nat.add_mul, Nat.one_mul, Nat.add_comm (n * _), take_two] at hall ⊢
    have hs := hall.split
    have hlr : ((zs.drop (k * P.cellsOf e)).take (P.cellsOf e)).length = r.length := by rw [hc]; simp; omega
    rw [List.take_left' hlr, List.drop_left' hlr] at hs
    obtain ⟨b, hb, hiff⟩ := hg e r _ hr hs.1
    have hk : k * P.cellsOf e + P.cellsOf e = (k + 1) * P.cellsOf e := by rw [Nat.add_mul, Nat.one_mul]
    rw [hk] at hs ⊢
    obtain ⟨b', hb', hiff'⟩ := items_eq hg hr hc zs n (k + 1) (by rw [Nat.add_mul, Nat.add_mul] at *; omega) hs.2
    have p1 := fun w => run_part (P := P) w hu hone (zs.map (·.1)) (k * P.cellsOf e) (by simp; omega)
    have p2 := fun w => run_part (P := P) w hu hone (zs.map (·.2)) (k * P.cellsOf e) (by simp; omega)
    simp only [map_part] at p1 p2
    refine ⟨b && b', fun w => ?_, ?_⟩
    · simp only [List.range'_succ, Op.eqItems, Sem.run_bind, p1, p2, hb, Result.andThen_ok]
      cases b
      · simp
      · simpa using hb' w
    · rw [Bool.and_eq_true, hiff, hiff', List.map_append, List.map_append]
      constructor
      · rintro ⟨e1, e2⟩; rw [e1, e2]
      · intro e; exact List.append_inj e (by simp)
theorem eq_flat : ∀ (d D : Nat), d ≤ D → EqG P D (flat P d)
  | 0, _, _ => fun t ts zs h _ => by simp [flat] at h
  | d + 1, 0, h => absurd h (by omega)
  | d + 1, D + 1, hD => fun t ts zs h hall => by
    have IH := eq_flat d D (by omega)
    unfold flat at h
    split at h
    · rename_i fs hu
      split at h
      · cases h
      · rename_i hst
        split at h
        · rename_i l hl
          split at h
          · rename_i hlen
            simp only [Option.some.injEq] at h; subst h
            have hz := hall.length
            obtain ⟨b, hb, hiff⟩ := fields_eq IH zs fs.toList 0 l hl (by omega) (by rw [List.drop_zero, hz, List.take_length]; exact hall)
            rw [List.drop_zero, hz, List.take_length] at hiff
            have hfs : P.fieldsOf t = fs := by simp [Program.fieldsOf, hu]
            refine ⟨b, fun w => ?_, hiff⟩
            have hr : rowT P t = true := by unfold rowT; rw [hu]
            unfold vOf
            rw [if_pos hr, if_pos hr, run_equalIn_struct w D t _ _ (by rw [hfs]; exact hu) (by simpa using hst), hfs]
            exact hb w
          · cases h
        · cases h
    · rename_i n e hu
      split at h
      · rename_i r hr
        split at h
        · rename_i hlen
          simp only [Option.some.injEq] at h; subst h
          have hz := hall.length
          have hz2 : n * P.cellsOf e = zs.length := by rw [← hz]; simp [hlen.1]
          obtain ⟨b, hb, hiff⟩ := items_eq IH hr hlen.1 zs n 0 (by rw [Nat.zero_add]; omega) (by rw [Nat.zero_mul, List.drop_zero, hz2, List.take_length]; exact hall)
          rw [Nat.zero_mul, List.drop_zero, hz2, List.take_length] at hiff
          obtain ⟨⟨dd, hue⟩, _⟩ := cells_one hr
          obtain ⟨i, hi⟩ := info_of_underlying hue
          refine ⟨b, fun w => ?_, hiff⟩
          have hrow : rowT P t = true := by unfold rowT; rw [hu]
          unfold vOf
          rw [if_pos hrow, if_pos hrow, run_equalIn_array w D _ _ hu hi, List.range_eq_range']
          exact hb w
        · cases h
      · cases h
    · rename_i dd hns hna hu
      split at h
      · simp only [Option.some.injEq] at h; subst h
        have hr : rowT P t = false := by unfold rowT; rw [hu]; cases dd <;> simp_all
        match zs, hall with
        | [p], ⟨⟨b, hb, hiff⟩, _⟩ =>
          refine ⟨b, fun w => ?_, by simpa using hiff⟩
          unfold vOf
          rw [hr]
          simpa using hb D w
      · cases h
    · cases h
/-- What a walk asks. -/
theorem eql_flat {d : Nat} {t : TypeId} {ts : List TypeId} (h : flat P d t = some ts) (hd : d ≤ 10000) (hr : rowT P t = true) (zs : List (Value × Value)) (hall : All2 (LeafEq P) ts zs) :
    ∃ b : Bool, (∀ w, (Op.equalIn 10000 t (.agg (zs.map (·.1)).toArray) (.agg (zs.map (·.2)).toArray)).run P w = .ok b w) ∧ (b = true ↔ zs.map (·.1) = zs.map (·.2)) := by
  obtain ⟨b, hb, hiff⟩ := eq_flat d 10000 hd t ts zs h hall
  refine ⟨b, fun w => ?_, hiff⟩
  have := hb w
  unfold vOf at this
  rwa [if_pos hr, if_pos hr] at this
end
end Go.Proofs.Ytfnpcfibgabmfaa.Flat
/- The contracts of sameValue, sameList and sameGroup at ints, rails, buses and groups, and of the document's SameInts: are two lists equal? -/
namespace Go.Proofs.Ytfnpcfibgabmfaa.Same
open Go.ChangeShapes Go.WideShapes Go.ChangeAt Go.RowKit
open Tab
open May (ret_bool chain take_succ' infoP infoG infoD infoR infoB row_new)
set_option linter.unusedVariables false
set_option linter.unusedSimpArgs false

theorem eq_step {α : Type} {l m : List α} {k : Nat} {v u : α} (h : l[k]? = some v) (h' : m[k]? = some u) (e : l.take k = m.take k) (hv : v = u) : l.take (k + 1) = m.take (k + 1) := by
  rw [take_succ' l k v h, take_succ' m k u h', e, hv]
theorem eq_break {α : Type} {l m : List α} {k : Nat} {v u : α} (h : l[k]? = some v) (h' : m[k]? = some u) (hv : ¬ v = u) : ¬ l = m := by
  rintro rfl; rw [h] at h'; exact hv (Option.some.inj h')
theorem eq_end {α : Type} {l m : List α} {k : Nat} (e : l.take k = m.take k) (hl : l.length = m.length) (hk : ¬ k < l.length) : l = m := by
  rwa [List.take_of_length_le (by omega), List.take_of_length_le (by omega)] at e

theorem value_any (a b : Int) (w : World) : Calls Try.prog 94 #[.int .i64 a, .int .i64 b] w fun e w' => e = .returned (.bool (decide (a = b))) ∧ w = w' := by
  go_enter Try.func94, Try.ntmps94
  go_wp2
  go_ret
  exact ⟨ret_bool (by by_cases h : a = b <;> simp [h]), rfl⟩
theorem ints_any (a b : Option Addr) (ca cb : Nat) (l m : List Int) (w : World) (h : IntRow w ⟨a, ca⟩ l) (h' : IntRow w ⟨b, cb⟩ m) :
    Calls Try.prog 93 #[.slice a l.length ca, .slice b m.length cb, .func (.func 94) #[] #[]] w fun e w' => e = .returned (.bool (decide (l = m))) ∧ w = w' := by
  have h1 := h.len
  have h2 := h'.len
  unfold maxLen at h1 h2
  have Hr := Lib.hid h
  have Hr' := Lib.hid h'
  clear h h'
  by_cases hlen : l.length = m.length
  · have HL := Lib.hid hlen
    have hd : ((l.length : Int) != (m.length : Int)) = false := by rw [bne_eq_false_iff_eq]; omega
    go_enter Try.func93, Try.ntmps93
    go_wp2
    go_loop [16] (fun i => ∃ k : Nat, k ≤ l.length ∧ i = .int .i64 k ∧ l.take k = m.take k) (fun i => l.length - (intOf i).toNat)
    case atStart => exact ⟨0, by omega, rfl, rfl⟩
    case round =>
      obtain ⟨k, hk, rfl, hall⟩ := hrel
      have Hall := Lib.hid hall
      clear hall
      by_cases hlt : k < l.length
      · have hv := List.getElem?_eq_getElem hlt
        have hu := List.getElem?_eq_getElem (show k < m.length by omega)
        generalize l[k] = v at hv
        generalize m[k]'(show k < m.length by omega) = u at hu
        obtain ⟨x, hx, hc⟩ := Hr.out.at hv
        obtain rfl : a = some x := hx
        obtain ⟨y, hy, hc'⟩ := Hr'.out.at hu
        obtain rfl : b = some y := hy
        have HV := Lib.hid hv
        have HU := Lib.hid hu
        clear hv hu
        go_wp2_with fail
        refine (value_any v u _).mono ?_
        rintro e w2 ⟨rfl, rfl⟩
        by_cases hvu : v = u
        · have HE := Lib.hid hvu
          rw [decide_eq_true hvu]
          clear hvu
          go_wp2
          go_round
          case rel => exact ⟨k + 1, by omega, by go_num, eq_step HV.out HU.out Hall.out HE.out⟩
          case measure => simp [intOf]; omega
        · have HE := Lib.hid (show ¬ l = m from eq_break HV.out HU.out hvu)
          rw [decide_eq_false hvu]
          clear hvu
          go_wp2
          go_ret
          exact ⟨ret_bool (decide_eq_false HE.out).symm, rfl⟩
      · have HE := Lib.hid (show l = m from eq_end Hall.out HL.out hlt)
        go_wp2
        go_ret
        exact ⟨ret_bool (decide_eq_true HE.out).symm, rfl⟩
  · have HL := Lib.hid (show ¬ l = m from fun e => hlen (by rw [e]))
    have hd : ((l.length : Int) != (m.length : Int)) = true := by rw [bne_iff_ne]; omega
    go_enter Try.func93, Try.ntmps93
    go_wp2
    go_ret
    exact ⟨ret_bool (decide_eq_false HL.out).symm, rfl⟩
end Go.Proofs.Ytfnpcfibgabmfaa.Same
/- What == answers at the arrays and structs of a table: equality. -/
namespace Go.Proofs.Ytfnpcfibgabmfaa.Same
open Go.ChangeShapes Go.WideShapes
open Tab Flat
set_option linter.unusedVariables false
set_option linter.unusedSimpArgs false

def Eqs (t : TypeId) (xs ys : List Value) (b : Bool) : Prop := ∀ w : World, (Op.equalIn 10000 t (.agg xs.toArray) (.agg ys.toArray)).run Try.prog w = .ok b w
theorem eqs_of {d : Nat} {t : TypeId} {ts : List TypeId} (h : flat Try.prog d t = some ts) (hd : d ≤ 10000) (hr : rowT Try.prog t = true) (zs : List (Value × Value)) (hall : All2 (LeafEq Try.prog) ts zs) {xs ys : List Value} (hx : zs.map (·.1) = xs) (hy : zs.map (·.2) = ys) {p : Prop} [Decidable p]
    (hp : xs = ys ↔ p) : Eqs t xs ys (decide p) := by
  subst hx hy
  obtain ⟨b, hb, hiff⟩ := eql_flat h hd hr zs hall
  rw [hp] at hiff
  have e : b = decide p := by
    by_cases hq : p
    · rw [decide_eq_true hq]; exact hiff.2 hq
    · rw [decide_eq_false hq]; cases b
      · rfl
      · exact absurd (hiff.1 rfl) hq
  intro w
  rw [hb w, e]
theorem lint (a b : Int) : LeafEq Try.prog 3 (I a, I b) := leaf_int Try.underlying3 a b
theorem lu64 (a b : Int) : LeafEq Try.prog 104 (.int .u64 a, .int .u64 b) := leaf_int Try.underlying104 a b
theorem lbool (a b : Bool) : LeafEq Try.prog 4 (.bool a, .bool b) := leaf_bool Try.underlying4 a b
theorem flatR : flat Try.prog 3 46 = some [3, 3, 3, 3, 3, 3, 3, 3, 3, 3, 3] := by kernel_rfl
theorem flatB : flat Try.prog 3 48 = some [3, 3] := by kernel_rfl
abbrev phTs : List TypeId := [4, 3, 3, 3, 3, 3, 3, 3, 3, 3, 3, 4, 4]
theorem flatP : flat Try.prog 4 26 = some (List.replicate 8 phTs).flatten := by kernel_rfl
theorem flat8 : flat Try.prog 3 28 = some (List.replicate 8 [3]).flatten := by kernel_rfl
theorem flat7 : flat Try.prog 3 101 = some [3, 3, 3, 3, 3, 3, 3] := by kernel_rfl
theorem flat4 : flat Try.prog 3 119 = some [104, 104, 104, 104] := by kernel_rfl

theorem rail_eqs (r s : Rl) : Eqs 46 r.cells s.cells (decide (r = s)) := by
  obtain ⟨a0, a1, a2, a3, a4, a5, a6, a7, a8, a9, a10⟩ := r
  obtain ⟨b0, b1, b2, b3, b4, b5, b6, b7, b8, b9, b10⟩ := s
  refine eqs_of flatR (by decide) (by kernel_rfl) [(I a0, I b0), (I a1, I b1), (I a2, I b2), (I a3, I b3), (I a4, I b4), (I a5, I b5), (I a6, I b6), (I a7, I b7), (I a8, I b8), (I a9, I b9), (I a10, I b10)]
    ⟨lint _ _, lint _ _, lint _ _, lint _ _, lint _ _, lint _ _, lint _ _, lint _ _, lint _ _, lint _ _, lint _ _, trivial⟩ rfl rfl ?_
  simp [Rl.cells]
theorem bus_eqs (r s : Bs) : Eqs 48 r.cells s.cells (decide (r = s)) := by
  obtain ⟨a0, a1⟩ := r
  obtain ⟨b0, b1⟩ := s
  refine eqs_of flatB (by decide) (by kernel_rfl) [(I a0, I b0), (I a1, I b1)] ⟨lint _ _, lint _ _, trivial⟩ rfl rfl ?_
  simp [Bs.cells]
theorem ph_leaves (p q : Ph) : ∃ zs, All2 (LeafEq Try.prog) phTs zs ∧ zs.map (·.1) = p.cells ∧ zs.map (·.2) = q.cells := by
  obtain ⟨a0, a1, a2, a3, a4, a5, a6, a7, a8, a9, a10, a11, a12⟩ := p
  obtain ⟨b0, b1, b2, b3, b4, b5, b6, b7, b8, b9, b10, b11, b12⟩ := q
  exact ⟨[(.bool a0, .bool b0), (I a1, I b1), (I a2, I b2), (I a3, I b3), (I a4, I b4), (I a5, I b5), (I a6, I b6), (I a7, I b7), (I a8, I b8), (I a9, I b9), (I a10, I b10), (.bool a11, .bool b11), (.bool a12, .bool b12)],
    ⟨lbool _ _, lint _ _, lint _ _, lint _ _, lint _ _, lint _ _, lint _ _, lint _ _, lint _ _, lint _ _, lint _ _, lbool _ _, lbool _ _, trivial⟩, rfl, rfl⟩
theorem many {α : Type} {ts : List TypeId} {enc : α → List Value} (h1 : ∀ p q : α, ∃ zs, All2 (LeafEq Try.prog) ts zs ∧ zs.map (·.1) = enc p ∧ zs.map (·.2) = enc q) : ∀ (n : Nat) (l m : List α), l.length = n → m.length = n →
    ∃ zs, All2 (LeafEq Try.prog) (List.replicate n ts).flatten zs ∧ zs.map (·.1) = l.flatMap enc ∧ zs.map (·.2) = m.flatMap enc
  | 0, [], [], _, _ => ⟨[], trivial, rfl, rfl⟩
  | n + 1, p :: l, q :: m, hl, hm => by
    obtain ⟨z1, h2, h3, h4⟩ := h1 p q
    obtain ⟨z2, h5, h6, h7⟩ := many h1 n l m (by simpa using hl) (by simpa using hm)
    refine ⟨z1 ++ z2, ?_, by simp [h3, h6], by simp [h4, h7]⟩
    rw [List.replicate_succ, List.flatten_cons]
    exact h2.append h5
  | 0, _ :: _, _, hl, _ => by simp at hl
  | 0, [], _ :: _, _, hm => by simp at hm
  | n + 1, [], _, hl, _ => by simp at hl
  | n + 1, _ :: _, [], _, hm => by simp at hm
theorem phases_eqs (l m : List Ph) (hl : l.length = 8) (hm : m.length = 8) : Eqs 26 (l.flatMap Ph.cells) (m.flatMap Ph.cells) (decide (l = m)) := by
  obtain ⟨zs, h1, h2, h3⟩ := many ph_leaves 8 l m hl hm
  exact eqs_of flatP (by decide) (by kernel_rfl) zs h1 h2 h3 ⟨phases_inj, fun e => by rw [e]⟩
theorem flat_one (l : List Int) : l.flatMap (fun n => [I n]) = l.map I := by
  induction l with
  | nil => rfl
  | cons a l ih => rw [List.flatMap_cons, ih]; rfl
theorem eight_eqs (l m : List Int) (hl : l.length = 8) (hm : m.length = 8) : Eqs 28 (l.map I) (m.map I) (decide (l = m)) := by
  obtain ⟨zs, h1, h2, h3⟩ := many (ts := [3]) (enc := fun n => [I n]) (fun p q => ⟨[(I p, I q)], ⟨lint _ _, trivial⟩, rfl, rfl⟩) 8 l m hl hm
  rw [flat_one] at h2 h3
  exact eqs_of flat8 (by decide) (by kernel_rfl) zs h1 h2 h3 ⟨ints_inj, fun e => by rw [e]⟩
def single (T : Tab) : List Int := [T.extend, T.budget, T.start, T.revert, T.least, T.window, T.share]
theorem seven_eqs (T U : Tab) : Eqs 101 ((single T).map I) ((single U).map I) (decide (single T = single U)) := by
  refine eqs_of flat7 (by decide) (by kernel_rfl) [(I T.extend, I U.extend), (I T.budget, I U.budget), (I T.start, I U.start), (I T.revert, I U.revert), (I T.least, I U.least), (I T.window, I U.window), (I T.share, I U.share)]
    ⟨lint _ _, lint _ _, lint _ _, lint _ _, lint _ _, lint _ _, lint _ _, trivial⟩ (xs := (single T).map I) (ys := (single U).map I) rfl rfl ⟨ints_inj, fun e => by rw [e]⟩
abbrev U64 (n : Nat) : Value := .int .u64 n
def bitsOf (d : Det) : List Value := [U64 d.on, U64 d.off, U64 d.delay, U64 d.extend]
theorem bits_eqs (d e : Det) : Eqs 119 (bitsOf d) (bitsOf e) (decide (d.on = e.on ∧ d.off = e.off ∧ d.delay = e.delay ∧ d.extend = e.extend)) := by
  refine eqs_of flat4 (by decide) (by kernel_rfl) [(U64 d.on, U64 e.on), (U64 d.off, U64 e.off), (U64 d.delay, U64 e.delay), (U64 d.extend, U64 e.extend)] ⟨lu64 _ _, lu64 _ _, lu64 _ _, lu64 _ _, trivial⟩ rfl rfl ?_
  simp [bitsOf]
  omega
theorem guardR : Try.prog.eqGuardType Try.prog.depth 46 = false := by kernel_rfl
theorem guardB : Try.prog.eqGuardType Try.prog.depth 48 = false := by kernel_rfl
theorem guardP : Try.prog.eqGuardType Try.prog.depth 26 = false := by kernel_rfl
theorem guard8 : Try.prog.eqGuardType Try.prog.depth 28 = false := by kernel_rfl
theorem guard7 : Try.prog.eqGuardType Try.prog.depth 101 = false := by kernel_rfl
theorem guard4 : Try.prog.eqGuardType Try.prog.depth 119 = false := by kernel_rfl
end Go.Proofs.Ytfnpcfibgabmfaa.Same
