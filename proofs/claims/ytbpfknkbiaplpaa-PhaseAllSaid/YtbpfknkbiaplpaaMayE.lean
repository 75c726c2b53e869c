/- The contract of the document's May, at any table: it answers as table.May does. -/
import Derived.Test.YtbpfknkbiaplpaaRows
import Derived.Test.YtbpfknkbiaplpaaMayD
import Derived.Deep.Cut
namespace Go.Proofs.Ytbpfknkbiaplpaa.May
open Go.ChangeShapes Go.WideShapes Go.ChangeAt Go.RowKit
open Tab
set_option linter.unusedVariables false
set_option linter.unusedSimpArgs false

/-- The document's order. -/
def tabRmay (T : Tab) : Bool :=
  ((((allIn 9999 [T.extend, T.budget, T.start, T.revert, T.least] && allIn 2147483647 [T.window, T.share]) && allIn 255 T.conflict) && allIn 2 T.flash) && T.phases.all Ph.may)
theorem may_lens {T : Tab} (h : 4 < T.groups.length ∨ 16 < T.dets.length ∨ 4 < T.rails.length ∨ 4 < T.buses.length) : tabMay T = false := by
  unfold tabMay listMay
  rcases h with h | h | h | h
  · rw [decide_eq_false (p := (T.groups.length : Int) ≤ 4) (by omega)]; simp
  · rw [decide_eq_false (p := (T.dets.length : Int) ≤ 16) (by omega)]; simp
  · rw [decide_eq_false (p := (T.rails.length : Int) ≤ 4) (by omega)]; simp
  · rw [decide_eq_false (p := (T.buses.length : Int) ≤ 4) (by omega)]; simp
theorem may_group {T : Tab} {g : List Int × List Int} (h : g ∈ T.groups) (hg : groupMay g = false) : tabMay T = false := by
  have : T.groups.all groupMay = false := by rw [List.all_eq_false]; exact ⟨g, h, by simp [hg]⟩
  unfold tabMay listMay
  rw [this]; simp
theorem may_order {T : Tab} (h8 : T.phases.length = 8) (hg : ¬ 4 < T.groups.length) (hd : ¬ 16 < T.dets.length) (hr : ¬ 4 < T.rails.length) (hb : ¬ 4 < T.buses.length) (hall : T.groups.all groupMay = true) :
    tabMay T = (((tabRmay T && T.dets.all Det.may) && T.rails.all Rl.may) && T.buses.all Bs.may) := by
  unfold tabMay listMay tabRmay
  rw [hall, decide_eq_true (p := (T.phases.length : Int) ≤ 8) (by omega), decide_eq_true (p := (T.groups.length : Int) ≤ 4) (by omega), decide_eq_true (p := (T.dets.length : Int) ≤ 16) (by omega), decide_eq_true (p := (T.rails.length : Int) ≤ 4) (by omega), decide_eq_true (p := (T.buses.length : Int) ≤ 4) (by omega)]
  simp only [Bool.true_and]
  generalize T.phases.all Ph.may = p
  generalize T.dets.all Det.may = d
  generalize T.rails.all Rl.may = r
  generalize T.buses.all Bs.may = b
  generalize allIn 255 T.conflict = c
  generalize allIn 2 T.flash = f
  generalize allIn 9999 _ = x
  generalize allIn 2147483647 _ = y
  revert p d r b c f x y
  decide
theorem acc_step {α : Type} {f : α → Bool} {l : List α} {k : Nat} {v : α} {b c : Bool} (h : l[k]? = some v) (hv : f v = c) : (b && (l.take (k + 1)).all f) = ((b && (l.take k).all f) && c) := by
  rw [take_succ' l k v h, List.all_append]; simp [hv, Bool.and_assoc]
theorem acc_end {α : Type} {f : α → Bool} {l : List α} {k : Nat} {b : Bool} (h : ¬ k < l.length) : (b && (l.take k).all f) = (b && l.all f) := by
  rw [List.take_of_length_le (by omega)]

def GAll (l : List Gr) : Prop := l.all (fun v => groupMay v.data) = true
theorem GAll.step {l : List Gr} {k : Nat} {v : Gr} (h : l[k]? = some v) (hk : GAll (l.take k)) (hv : groupMay v.data = true) : GAll (l.take (k + 1)) := all_step (f := fun v : Gr => groupMay v.data) h hk hv
theorem GAll.fin {l : List Gr} {k : Nat} (hk : GAll (l.take k)) (h : ¬ k < l.length) : l.all (fun v => groupMay v.data) = true := all_end (f := fun v : Gr => groupMay v.data) hk h
theorem infoT : (Try.prog.info? 45).map (·.size) = some 131 := by kernel_rfl
set_option maxRecDepth 10000 in
set_option maxHeartbeats 4000000 in
theorem rmay_any (T : Tab) (h : Hd) (w : World) (k : IsTab w h T) :
    Calls Try.prog 22 #[.agg (T.cells h).toArray] w fun e w' => e = .returned (.bool (tabMay T)) ∧ Below w.heap.size w w' := by
  have C := Lib.hid (cells_ok k)
  have L8 := Lib.hid k.ph
  have Lc := Lib.hid k.cf
  have Lf := Lib.hid k.fl
  have Kd := (k.dets).len
  have Kr := (k.rails).len
  have Kb := (k.buses).len
  generalize (T.cells h).toArray = cs at C ⊢
  have hsz := C.out.size
  obtain ⟨gs, hgd, hgr⟩ := k.groups
  have Kg := hgr.1.len
  unfold maxLen at Kd Kr Kb Kg
  have Hgr := Lib.hid hgr
  clear hgr
  have S0 := Lib.hid (St.box (cs := cs) k)
  clear k
  have Hgd := Lib.hid hgd
  have hgl : T.groups.length = gs.length := by rw [← hgd, List.length_map]
  have Hgl := Lib.hid hgl
  clear hgd
  clear hgl
  go_enter Try.func22, Try.ntmps22
  go_upto_region 1 with fail
  generalize hw1 : w.alloc (.cells cs 45) = w1 at S0 ⊢
  clear hw1
  have c104 := S0.out.cell C.out.g
  rw [Hgl.out] at c104
  have c113 := S0.out.cell C.out.d
  have c114 := S0.out.cell C.out.r
  have c115 := S0.out.cell C.out.b
  clear hsz
  by_cases hG : 4 < gs.length
  · go_wp2
    go_ret
    exact ⟨ret_bool (may_lens (.inl (by rw [Hgl.out]; omega))).symm, S0.out.bel⟩
  by_cases hD : 16 < T.dets.length
  · go_wp2
    go_ret
    exact ⟨ret_bool (may_lens (.inr (.inl (by omega)))).symm, S0.out.bel⟩
  by_cases hR : 4 < T.rails.length
  · go_wp2
    go_ret
    exact ⟨ret_bool (may_lens (.inr (.inr (.inl (by omega))))).symm, S0.out.bel⟩
  by_cases hB : 4 < T.buses.length
  · go_wp2
    go_ret
    exact ⟨ret_bool (may_lens (.inr (.inr (.inr (by omega))))).symm, S0.out.bel⟩
  have HG := Lib.hid (show ¬ 4 < T.groups.length by rw [Hgl.out]; exact hG)
  have HD := Lib.hid hD
  have HR := Lib.hid hR
  have HB := Lib.hid hB
  have dG : decide ((4 : Int) < (gs.length : Int)) = false := decide_eq_false (by omega)
  have dD : decide ((16 : Int) < (T.dets.length : Int)) = false := decide_eq_false (by omega)
  have dR : decide ((4 : Int) < (T.rails.length : Int)) = false := decide_eq_false (by omega)
  have dB : decide ((4 : Int) < (T.buses.length : Int)) = false := decide_eq_false (by omega)
  clear hG hD hR hB
  go_upto_region 3 with fail
  clear c104 c113 c114 c115 dG dD dR dB
  go_cut [3] from 32 (fun t3 wx => t3 = .bool (((allIn 9999 [T.extend, T.budget, T.start, T.revert, T.least] && allIn 2147483647 [T.window, T.share]) && allIn 255 T.conflict) && allIn 2 T.flash) ∧ St w w.heap.size cs h T wx)
  case first =>
    have c116 := S0.out.cell C.out.extend
    have c117 := S0.out.cell C.out.budget
    have c118 := S0.out.cell C.out.start
    have c119 := S0.out.cell C.out.revert
    have c120 := S0.out.cell C.out.least
    go_wp2_with fail
    refine (times_any _ _ [T.extend, T.budget, T.start, T.revert, T.least] _ (row_new _ _ [T.extend, T.budget, T.start, T.revert, T.least] 5 rfl (by decide) _ rfl)).mono ?_
    rintro e w2 ⟨rfl, hw⟩
    have hb2 : Below w1.heap.size w1 w2 := hw ▸ (Below.refl _ _).alloc (Nat.le_refl _) _
    have S2 := Lib.hid (S0.out.step hb2)
    clear hb2 hw c116 c117 c118 c119 c120
    generalize hv : allIn 9999 [T.extend, T.budget, T.start, T.revert, T.least] = b1
    have V1 := Lib.hid hv
    clear hv
    cases b1
    · go_wp2_with fail
      go_meet
      exact ⟨by simp only [V1.out, Bool.true_and, Bool.false_and, Bool.and_false], S2.out⟩
    have c129 := S2.out.cell C.out.window
    have c130 := S2.out.cell C.out.share
    go_wp2_with fail
    refine (upto_any 2147483647 _ _ [T.window, T.share] _ (row_new _ _ [T.window, T.share] 2 rfl (by decide) _ rfl)).mono ?_
    rintro e w3 ⟨rfl, hw⟩
    have hb3 : Below w2.heap.size w2 w3 := hw ▸ (Below.refl _ _).alloc (Nat.le_refl _) _
    have S3 := Lib.hid (S2.out.step hb3)
    clear hb3 hw c129 c130
    generalize hv : allIn 2147483647 [T.window, T.share] = b2
    have V2 := Lib.hid hv
    clear hv
    cases b2
    · go_wp2_with fail
      go_meet
      exact ⟨by simp only [V1.out, V2.out, Bool.true_and, Bool.false_and, Bool.and_false], S3.out⟩
    go_wp2_with fail
    refine (upto_len 255 (some ⟨w.heap.size, 105, none⟩) 8 T.conflict 8 Lc.out _ (ints_in S3.out.blk 105 8 _ C.out.conflict Lc.out (by decide))).mono ?_
    rintro e w4 ⟨rfl, rfl⟩
    generalize hv : allIn 255 T.conflict = b3
    have V3 := Lib.hid hv
    clear hv
    cases b3
    · go_wp2_with fail
      go_meet
      exact ⟨by simp only [V1.out, V2.out, V3.out, Bool.true_and, Bool.false_and, Bool.and_false], S3.out⟩
    go_wp2_with fail
    refine (upto_len 2 (some ⟨w.heap.size, 121, none⟩) 8 T.flash 8 Lf.out _ (ints_in S3.out.blk 121 8 _ C.out.flash Lf.out (by decide))).mono ?_
    rintro e w5 ⟨rfl, rfl⟩
    go_wp2_with fail
    go_meet
    exact ⟨by simp only [V1.out, V2.out, V3.out, Bool.true_and], S3.out⟩
  case rest =>
  obtain ⟨rfl, hs⟩ := hcut
  clear S0
  generalize hok : (((allIn 9999 [T.extend, T.budget, T.start, T.revert, T.least] && allIn 2147483647 [T.window, T.share]) && allIn 255 T.conflict) && allIn 2 T.flash) = ok
  have HOK := Lib.hid hok
  have S1 := Lib.hid hs
  clear hok hs
  go_wp2_with fail
  go_loopw [3, 4] (fun b i wr => ∃ q : Nat, q ≤ 8 ∧ i = .int .i64 q ∧ b = .bool (ok && (T.phases.take q).all Ph.may) ∧ St w w.heap.size cs h T wr) (fun _ i _ => 8 - (intOf i).toNat)
  case atStart => exact ⟨0, by omega, rfl, by simp, S1.out⟩
  case round =>
    clear S1
    obtain ⟨q, hq, rfl, rfl, hs⟩ := hrel
    have S1 := Lib.hid hs
    clear hs
    by_cases hlt : q < 8
    · have hv : T.phases[q]? = some (T.phases[q]'(by rw [L8.out]; exact hlt)) := List.getElem?_eq_getElem _
      generalize T.phases[q]'(by rw [L8.out]; exact hlt) = v at hv
      have HV := Lib.hid hv
      obtain ⟨x, hx, hc⟩ := (phases_in S1.out.blk C.out L8.out).at hv
      obtain rfl := Option.some.inj hx
      have HC := Lib.hid (show Lies wr ⟨w.heap.size, q * 13, none⟩ v.cells by have := hc; rwa [Addr.add_mid, Nat.zero_add] at this)
      clear hv hc hx
      generalize hacc : (ok && (T.phases.take q).all Ph.may) = acc
      have HA := Lib.hid hacc
      clear hacc
      cases acc
      · go_wp2
        go_roundw
        case rel => exact ⟨q + 1, by omega, by go_num, by rw [acc_step HV.out rfl, HA.out]; rfl, S1.out⟩
        case measure => simp [intOf]; omega
      · go_wp2_with (first | (refine Row.wpList_load_g 23 _ rfl (by first | rfl | go_simp) ⟨w.heap.size, q * 13, none⟩ rfl v.cells _ HC.out Try.underlying23 rfl infoP ?_))
        refine (rphase_any v _).mono ?_
        rintro e w2 ⟨rfl, hb2⟩
        have S2 := Lib.hid (S1.out.step hb2)
        clear hb2
        go_wp2
        go_roundw
        case rel => exact ⟨q + 1, by omega, by go_num, by rw [acc_step HV.out rfl, HA.out, Bool.true_and], S2.out⟩
        case measure => simp [intOf]; omega
    · have hend : (ok && (T.phases.take q).all Ph.may) = (ok && T.phases.all Ph.may) := acc_end (by rw [L8.out]; omega)
      rw [hend]
      generalize hok1 : (ok && T.phases.all Ph.may) = ok1
      have HOK1 := Lib.hid hok1
      clear hok1 hend
      go_wp2_with fail
      go_loopw [5] (fun i wr => ∃ q : Nat, q ≤ gs.length ∧ i = .int .i64 q ∧ GAll (gs.take q) ∧ St w w.heap.size cs h T wr) (fun i _ => gs.length - (intOf i).toNat)
      case atStart => exact ⟨0, by omega, rfl, (rfl : GAll []), S1.out⟩
      case round =>
        clear S1
        obtain ⟨q, hq, rfl, hall, hs⟩ := hrel
        have S1 := Lib.hid hs
        have Hall := Lib.hid hall
        clear hs hall
        have c104 := S1.out.cell C.out.g
        rw [Hgl.out] at c104
        by_cases hlt : q < gs.length
        · have hv := List.getElem?_eq_getElem hlt
          generalize gs[q] = v at hv
          obtain ⟨x, hx, hc⟩ := (Hgr.out.1.below S1.out.bel).at hv
          have hok := Hgr.out.2 v (List.mem_of_getElem? hv)
          have HV := Lib.hid hv
          obtain ⟨l0, l1, ⟨a0, cap0⟩, ⟨a1, cap1⟩⟩ := v
          have HC := Lib.hid hc
          have H0 := Lib.hid hok.1
          have H1 := Lib.hid hok.2
          have K0 := hok.1.len
          have K1 := hok.2.len
          unfold maxLen at K0 K1
          clear hv hc hok
          go_wp2_with fail
          go_loopw [6] (fun i wr => ∃ r : Nat, r ≤ 2 ∧ i = .int .i64 r ∧ (0 < r → rowMay l0 = true) ∧ (1 < r → rowMay l1 = true) ∧ St w w.heap.size cs h T wr) (fun i _ => 2 - (intOf i).toNat)
          case atStart => exact ⟨0, by omega, rfl, fun h => absurd h (by omega), fun h => absurd h (by omega), S1.out⟩
          case round =>
            clear S1 c104
            obtain ⟨r, hr, rfl, hr0, hr1, hs⟩ := hrel
            have S1 := Lib.hid hs
            have R0 := Lib.hid hr0
            have R1 := Lib.hid hr1
            clear hs hr0 hr1
            have c104 := S1.out.cell C.out.g
            simp only [Sl.val, Hgl.out, hx] at c104
            obtain ⟨x', hx', hc⟩ := (Hgr.out.1.below S1.out.bel).at HV.out
            obtain rfl : x' = x := Option.some.inj (hx'.symm.trans hx)
            have e0 := hc 0 _ rfl
            have e1 := hc 1 _ rfl
            rw [add_zero] at e0
            rw [add_one] at e1
            clear hc hx'
            have hr2 : r = 0 ∨ r = 1 ∨ r = 2 := by omega
            rcases hr2 with rfl | rfl | rfl
            · by_cases h8 : 8 < l0.length
              · go_wp2
                go_ret
                exact ⟨ret_bool (may_group (T := T) (g := (l0, l1)) (by rw [← Hgd.out]; exact List.mem_map.2 ⟨_, List.mem_of_getElem? HV.out, rfl⟩) (by unfold groupMay rowMay; simp only []; rw [decide_eq_false (p := l0.length ≤ 8) (by omega)]; simp)).symm, S1.out.bel⟩
              · have H8 := Lib.hid h8
                go_wp2_with (go_at_call 40; refine (upto_any 7 a0 cap0 l0 _ (H0.out.below S1.out.bel)).mono ?_; rintro e w2 ⟨rfl, rfl⟩; generalize hrow : allIn 7 l0 = b; have HR2 := Lib.hid hrow; clear hrow; cases b)
                · go_wp2
                  go_ret
                  exact ⟨ret_bool (may_group (T := T) (g := (l0, l1)) (by rw [← Hgd.out]; exact List.mem_map.2 ⟨_, List.mem_of_getElem? HV.out, rfl⟩) (by unfold groupMay rowMay; simp only []; rw [HR2.out]; simp)).symm, S1.out.bel⟩
                · go_wp2
                  go_roundw
                  case rel => exact ⟨0 + 1, by omega, by go_num, fun _ => by unfold rowMay; rw [HR2.out, decide_eq_true (by have := H8.out; omega)]; rfl, fun h => absurd h (by omega), S1.out⟩
                  case measure => simp [intOf]
            · by_cases h8 : 8 < l1.length
              · go_wp2
                go_ret
                exact ⟨ret_bool (may_group (T := T) (g := (l0, l1)) (by rw [← Hgd.out]; exact List.mem_map.2 ⟨_, List.mem_of_getElem? HV.out, rfl⟩) (by unfold groupMay rowMay; simp only []; rw [decide_eq_false (p := l1.length ≤ 8) (by omega)]; simp)).symm, S1.out.bel⟩
              · have H8 := Lib.hid h8
                go_wp2_with (go_at_call 40; refine (upto_any 7 a1 cap1 l1 _ (H1.out.below S1.out.bel)).mono ?_; rintro e w2 ⟨rfl, rfl⟩; generalize hrow : allIn 7 l1 = b; have HR2 := Lib.hid hrow; clear hrow; cases b)
                · go_wp2
                  go_ret
                  exact ⟨ret_bool (may_group (T := T) (g := (l0, l1)) (by rw [← Hgd.out]; exact List.mem_map.2 ⟨_, List.mem_of_getElem? HV.out, rfl⟩) (by unfold groupMay rowMay; simp only []; rw [HR2.out]; simp)).symm, S1.out.bel⟩
                · go_wp2
                  go_roundw
                  case rel => exact ⟨1 + 1, by omega, by go_num, fun _ => R0.out (by omega), fun _ => by unfold rowMay; rw [HR2.out, decide_eq_true (by have := H8.out; omega)]; rfl, S1.out⟩
                  case measure => simp [intOf]
            · have Hrow := Lib.hid (And.intro (R0.out (by omega)) (R1.out (by omega)))
              go_wp2
              go_roundw
              case rel => exact ⟨q + 1, by omega, by go_num, (Hall.out.step HV.out (by show (rowMay l0 && rowMay l1) = true; rw [Hrow.out.1, Hrow.out.2]; rfl)), S1.out⟩
              case measure => simp [intOf]; omega
        · have hall2 : T.groups.all groupMay = true := by
            have := Hall.out.fin hlt
            rw [← Hgd.out, List.all_map]; exact this
          have HALL := Lib.hid hall2
          clear hall2 Hall
          have c113 := S1.out.cell C.out.d
          go_wp2_with fail
          go_loopw [3, 7] (fun b i wr => ∃ q : Nat, q ≤ T.dets.length ∧ i = .int .i64 q ∧ b = .bool (ok1 && (T.dets.take q).all Det.may) ∧ St w w.heap.size cs h T wr) (fun _ i _ => T.dets.length - (intOf i).toNat)
          case atStart => exact ⟨0, by omega, rfl, by simp, S1.out⟩
          case round =>
            clear S1
            obtain ⟨q, hq, rfl, rfl, hs⟩ := hrel
            have S1 := Lib.hid hs
            clear hs
            have c113 := S1.out.cell C.out.d
            by_cases hlt : q < T.dets.length
            · have hv := List.getElem?_eq_getElem hlt
              generalize T.dets[q] = v at hv
              obtain ⟨x, hx, hc⟩ := (S1.out.tab.dets).at hv
              simp only [Sl.val, hx] at c113
              have HV := Lib.hid hv
              have HC := Lib.hid hc
              clear hv hc
              generalize hacc : (ok1 && (T.dets.take q).all Det.may) = acc
              have HA := Lib.hid hacc
              clear hacc
              cases acc
              · go_wp2
                go_roundw
                case rel => exact ⟨q + 1, by omega, by go_num, by rw [acc_step HV.out rfl, HA.out]; rfl, S1.out⟩
                case measure => simp [intOf]; omega
              · go_wp2_with (first | (refine Row.wpList_load_g 72 _ rfl (by first | rfl | go_simp) (x.add (q * 7)) rfl v.cells _ HC.out Try.underlying72 rfl infoD ?_))
                refine (rdetector_any v _).mono ?_
                rintro e w2 ⟨rfl, hb2⟩
                have S2 := Lib.hid (S1.out.step hb2)
                clear hb2
                go_wp2
                go_roundw
                case rel => exact ⟨q + 1, by omega, by go_num, by rw [acc_step HV.out rfl, HA.out, Bool.true_and], S2.out⟩
                case measure => simp [intOf]; omega
            · have hend : (ok1 && (T.dets.take q).all Det.may) = (ok1 && T.dets.all Det.may) := acc_end hlt
              rw [hend]
              generalize hok1 : (ok1 && T.dets.all Det.may) = ok2
              have HOK2 := Lib.hid hok1
              clear hok1 hend
              have c114 := S1.out.cell C.out.r
              go_wp2_with fail
              go_loopw [3, 8] (fun b i wr => ∃ q : Nat, q ≤ T.rails.length ∧ i = .int .i64 q ∧ b = .bool (ok2 && (T.rails.take q).all Rl.may) ∧ St w w.heap.size cs h T wr) (fun _ i _ => T.rails.length - (intOf i).toNat)
              case atStart => exact ⟨0, by omega, rfl, by simp, S1.out⟩
              case round =>
                clear S1
                obtain ⟨q, hq, rfl, rfl, hs⟩ := hrel
                have S1 := Lib.hid hs
                clear hs
                have c114 := S1.out.cell C.out.r
                by_cases hlt : q < T.rails.length
                · have hv := List.getElem?_eq_getElem hlt
                  generalize T.rails[q] = v at hv
                  obtain ⟨x, hx, hc⟩ := (S1.out.tab.rails).at hv
                  simp only [Sl.val, hx] at c114
                  have HV := Lib.hid hv
                  have HC := Lib.hid hc
                  clear hv hc
                  generalize hacc : (ok2 && (T.rails.take q).all Rl.may) = acc
                  have HA := Lib.hid hacc
                  clear hacc
                  cases acc
                  · go_wp2
                    go_roundw
                    case rel => exact ⟨q + 1, by omega, by go_num, by rw [acc_step HV.out rfl, HA.out]; rfl, S1.out⟩
                    case measure => simp [intOf]; omega
                  · go_wp2_with (first | (refine Row.wpList_load_g 75 _ rfl (by first | rfl | go_simp) (x.add (q * 11)) rfl v.cells _ HC.out Try.underlying75 rfl infoR ?_))
                    refine (rrail_any v _).mono ?_
                    rintro e w2 ⟨rfl, hb2⟩
                    have S2 := Lib.hid (S1.out.step hb2)
                    clear hb2
                    go_wp2
                    go_roundw
                    case rel => exact ⟨q + 1, by omega, by go_num, by rw [acc_step HV.out rfl, HA.out, Bool.true_and], S2.out⟩
                    case measure => simp [intOf]; omega
                · have hend : (ok2 && (T.rails.take q).all Rl.may) = (ok2 && T.rails.all Rl.may) := acc_end hlt
                  rw [hend]
                  generalize hok1 : (ok2 && T.rails.all Rl.may) = ok3
                  have HOK3 := Lib.hid hok1
                  clear hok1 hend
                  have c115 := S1.out.cell C.out.b
                  go_wp2_with fail
                  go_loopw [3, 9] (fun b i wr => ∃ q : Nat, q ≤ T.buses.length ∧ i = .int .i64 q ∧ b = .bool (ok3 && (T.buses.take q).all Bs.may) ∧ St w w.heap.size cs h T wr) (fun _ i _ => T.buses.length - (intOf i).toNat)
                  case atStart => exact ⟨0, by omega, rfl, by simp, S1.out⟩
                  case round =>
                    clear S1
                    obtain ⟨q, hq, rfl, rfl, hs⟩ := hrel
                    have S1 := Lib.hid hs
                    clear hs
                    have c115 := S1.out.cell C.out.b
                    by_cases hlt : q < T.buses.length
                    · have hv := List.getElem?_eq_getElem hlt
                      generalize T.buses[q] = v at hv
                      obtain ⟨x, hx, hc⟩ := (S1.out.tab.buses).at hv
                      simp only [Sl.val, hx] at c115
                      have HV := Lib.hid hv
                      have e0 := hc 0 _ rfl
                      have e1 := hc 1 _ rfl
                      rw [add_zero] at e0
                      rw [add_one] at e1
                      obtain ⟨set, lock⟩ := v
                      have HC := Lib.hid hc
                      clear hv hc
                      generalize hacc : (ok3 && (T.buses.take q).all Bs.may) = acc
                      have HA := Lib.hid hacc
                      clear hacc
                      cases acc
                      · go_wp2
                        go_roundw
                        case rel => exact ⟨q + 1, by omega, by go_num, by rw [acc_step HV.out rfl, HA.out]; rfl, S1.out⟩
                        case measure => simp [intOf]; omega
                      · go_wp2_with fail
                        refine (upto_any 255 _ _ [set] _ (row_new _ _ [set] 1 rfl (by decide) _ rfl)).mono ?_
                        rintro e w2 ⟨rfl, hw⟩
                        have hb2 : Below wr.heap.size wr w2 := hw ▸ (Below.refl _ _).alloc (Nat.le_refl _) _
                        clear hw
                        have S2 := Lib.hid (S1.out.step hb2)
                        have HC2 := Lib.hid (HC.out.below hb2)
                        clear hb2 e0 e1 c115
                        generalize hv : allIn 255 [set] = b1
                        have V1 := Lib.hid hv
                        clear hv
                        cases b1
                        · go_wp2
                          go_roundw
                          case rel => exact ⟨q + 1, by omega, by go_num, by rw [acc_step HV.out rfl, HA.out, Bool.true_and]; unfold Bs.may; rw [V1.out]; rfl, S2.out⟩
                          case measure => simp [intOf]; omega
                        · have c115 := S2.out.cell C.out.b
                          simp only [Sl.val, hx] at c115
                          have e0 := HC2.out 0 _ rfl
                          have e1 := HC2.out 1 _ rfl
                          rw [add_zero] at e0
                          rw [add_one] at e1
                          go_wp2_with fail
                          refine (times_any _ _ [lock] _ (row_new _ _ [lock] 1 rfl (by decide) _ rfl)).mono ?_
                          rintro e w3 ⟨rfl, hw⟩
                          have hb3 : Below w2.heap.size w2 w3 := hw ▸ (Below.refl _ _).alloc (Nat.le_refl _) _
                          clear hw
                          have S3 := Lib.hid (S2.out.step hb3)
                          clear hb3 e0 e1 c115
                          go_wp2
                          go_roundw
                          case rel => exact ⟨q + 1, by omega, by go_num, by rw [acc_step HV.out rfl, HA.out, Bool.true_and]; unfold Bs.may; rw [V1.out, Bool.true_and], S3.out⟩
                          case measure => simp [intOf]; omega
                    · have hend : (ok3 && (T.buses.take q).all Bs.may) = (ok3 && T.buses.all Bs.may) := acc_end hlt
                      rw [hend]
                      go_wp2
                      go_ret
                      exact ⟨ret_bool (by rw [may_order L8.out HG.out HD.out HR.out HB.out HALL.out, ← HOK3.out, ← HOK2.out, ← HOK1.out, ← HOK.out]; rfl), S1.out.bel⟩
end Go.Proofs.Ytbpfknkbiaplpaa.May
