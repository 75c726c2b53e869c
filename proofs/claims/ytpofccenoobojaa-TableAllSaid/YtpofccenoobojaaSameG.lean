/- The contract of the document's Same, at any two tables: it answers as table.Same does. -/
import Derived.Test.YtpofccenoobojaaRows
import Derived.Test.YtpofccenoobojaaSgA
import Derived.Test.YtpofccenoobojaaSgB
import Derived.Test.YtpofccenoobojaaSgC
import Derived.Test.YtpofccenoobojaaSgD
import Derived.Test.YtpofccenoobojaaSameF
import Derived.Test.YtpofccenoobojaaHeld
import Derived.Test.YtpofccenoobojaaPw
import Derived.Test.YtpofccenoobojaaOwned
import Derived.Deep.Cut
import Derived.Deep.CutRange
namespace Go.Proofs.Ytpofccenoobojaa.Same
open Go.ChangeShapes Go.WideShapes Go.ChangeAt Go.RowKit
open Tab Owned CodeAt
open May (ret_bool chain take_succ' infoP infoG infoD infoR infoB infoT row_new St)
set_option linter.unusedVariables false
set_option linter.unusedSimpArgs false
set_option maxRecDepth 10000 in
set_option maxHeartbeats 20000000 in
theorem rsame_any (T U : Tab) (h k : Hd) (w : World) (ht : IsTab w h T) (hu : IsTab w k U) :
    Calls Try.prog 9 #[.agg (T.cells h).toArray, .agg (U.cells k).toArray] w fun e w' => e = .returned (.bool (decide (T = U))) ∧ Below w.heap.size w w' := by
  have C := Lib.hid (cells_ok ht)
  have D := Lib.hid (cells_ok hu)
  generalize (T.cells h).toArray = cs at C ⊢
  generalize (U.cells k).toArray = ds at D ⊢
  obtain ⟨gs, hgd, hgr⟩ := ht.groups
  obtain ⟨us, hud, hur⟩ := hu.groups
  have Hgr := Lib.hid hgr
  have Hur := Lib.hid hur
  have Kg := hgr.1.len
  have Ku := hur.1.len
  have Kd := ht.dets.len
  have Kd' := hu.dets.len
  have Kr := ht.rails.len
  have Kr' := hu.rails.len
  have Kb := ht.buses.len
  have Kb' := hu.buses.len
  unfold maxLen at Kg Ku Kd Kd' Kr Kr' Kb Kb'
  have Hgl := Lib.hid (show T.groups.length = gs.length by rw [← hgd, List.length_map])
  have Hul := Lib.hid (show U.groups.length = us.length by rw [← hud, List.length_map])
  have b1w : Below w.heap.size w ((w.alloc (.cells cs 31)).alloc (.cells ds 31)) := ((Below.refl _ _).alloc (Nat.le_refl _) _).alloc (by simp) _
  have SS : Hid (Two w cs ds h k T U ((w.alloc (.cells cs 31)).alloc (.cells ds 31))) := ⟨⟨b1w, heap_alloc2_old w _ _, ht.below b1w, Nat.le_refl _⟩, ⟨b1w, heap_alloc2_new w _ _, hu.below b1w, by omega⟩⟩
  have E1 := Lib.hid (phases_eqs T.phases U.phases ht.ph hu.ph)
  have E3 := Lib.hid (eight_eqs T.conflict U.conflict ht.cf hu.cf)
  have E7 := Lib.hid (eight_eqs T.flash U.flash ht.fl hu.fl)
  have GD : Hid (gs.map Gr.data = us.map Gr.data ↔ T.groups = U.groups) := by rw [hgd, hud]; exact Iff.rfl
  have L1 := Lib.hid ht
  have L2 := Lib.hid hu
  have hsz := C.out.size
  have hsd := D.out.size
  clear ht hu hgr hur b1w hgd hud
  go_enter Try.func9, Try.ntmps9
  go_upto_region 1 with fail
  generalize (w.alloc (.cells cs 31)).alloc (.cells ds 31) = w1 at SS ⊢
  clear hsz hsd
  clear E1 E3 E7
  refine heads_rg T U h k w w1 cs ds L1 L2 C D SS _ _ _ _ _ _ _ _ _ _ _ _ _ _ _ _ _ _ _ _ _ _ _ _ _ _ _ _ _ _ _ _ _ _ _ _ _ _ _ _ _ _ _ _ _ _ _ _ _ _ _ _ _ _ _ _ _ _ _ _ _ _ _ _ _ _ _ _ _ _ _ _ _ _ _ _ _ _ _ _ _ _ _ _ _ _ _ _ _ _ _ _ _ _ _ _ _ _ _ _ _ _ _ _ _ _ _ _ _ _ _ _ _ _ _ _ _ _ _ _ _ _ _ _ _ _ _ _ _ _ _ _ _ _ _ _ _ _ _ _ _ _ _ _ _ _ _ _ _ _ _ _ _ _ _ _ _ _ _ _ _ _ _ _ _ _ _ _ _ _ _ _ _ _ _ _ _ _ _ _ _ _ _ _ _ _ _ _ _ _ _ _ _ _ _ _ _ _ _ _ _ _ _ _ _ _ _ _ _ _ _ _ _ _ _ _ _ _ _ _ _ _ _ _ _ _ _ _ _ _ _ _ _ _ _ _ _ _ _ _ _ (Lib.hid ?_)
  intro x11 x12 x13 x14 x15 x16 x17 x18 x19 x20 x21 x22 x23 x24 x25 x26 x27 x28 x29 x30 x31 x32 x33 x34 x35 x36 x37 x38 x39 x40 x41 x42 x43 x44 x45 x46 x47 x48 x49 x50 x51 x52 x53 x54 x55 x56 x57 x58 x59 x60 x61 x62 x63 x64 b hb
  cases b
  rotate_left
  · have NE : Hid (¬ T = U) := fun e => by
      have h2 : Heads T U := by rw [e]; exact ⟨rfl, rfl, rfl, rfl, rfl, rfl, rfl⟩
      have := hb.2 h2
      simp at this
    clear hb
    go_wp2
    go_ret
    exact ⟨ret_bool (decide_eq_false NE.out).symm, SS.out.t.bel⟩
  have HH := Lib.hid (hb.1 rfl)
  clear hb
  generalize w1 = wc at SS ⊢
  go_upto_region 3 with fail
  have a0 := SS.out.t.cell C.out.extend
  have a1 := SS.out.t.cell C.out.budget
  have a2 := SS.out.t.cell C.out.start
  have a3 := SS.out.t.cell C.out.revert
  have a4 := SS.out.t.cell C.out.least
  have a5 := SS.out.t.cell C.out.window
  have a6 := SS.out.t.cell C.out.share
  have SB := SS.out.step (show Below wc.heap.size wc (wc.alloc (.cells #[I T.extend, I T.budget, I T.start, I T.revert, I T.least, I T.window, I T.share] 3)) from (Below.refl _ _).alloc (Nat.le_refl _) _)
  have b0 := SB.u.cell D.out.extend
  have b1 := SB.u.cell D.out.budget
  have b2 := SB.u.cell D.out.start
  have b3 := SB.u.cell D.out.revert
  have b4 := SB.u.cell D.out.least
  have b5 := SB.u.cell D.out.window
  have b6 := SB.u.cell D.out.share
  clear SB
  go_wp2_with fail
  refine (rints_len (some ⟨wc.heap.size, 0, none⟩) (some ⟨wc.heap.size + 1, 0, none⟩) 7 7 (single T) (single U) 7 7 rfl rfl _ ((row_new wc _ (single T) 7 rfl (by decide) _ rfl).below ((Below.refl _ _).alloc (Nat.le_refl _) _)) (row_new _ _ (single U) 7 rfl (by decide) (wc.heap.size + 1) (by simp))).mono ?_
  rintro e w2 ⟨rfl, hb⟩
  have hb2 : Below wc.heap.size wc w2 := Below.trans (Below.alloc (Below.alloc (Below.refl _ _) (Nat.le_refl _) _) (by simp) _) (hb.mono (by simp <;> omega))
  have S2 := Lib.hid (SS.out.step hb2)
  clear hb hb2 SS a0 a1 a2 a3 a4 a5 a6 b0 b1 b2 b3 b4 b5 b6
  by_cases h8 : single T = single U
  rotate_left
  · have NE : Hid (¬ T = U) := fun e => h8 (by rw [e])
    rw [decide_eq_false h8]
    clear h8
    go_wp2
    go_ret
    exact ⟨ret_bool (decide_eq_false NE.out).symm, S2.out.t.bel⟩
  rw [decide_eq_true h8]
  have H8 := Lib.hid h8
  have HLg : Hid (gs.length = us.length) := Lib.hid (by rw [← Hgl.out, ← Hul.out]; exact HH.out.h4)
  have q104 := S2.out.t.cell C.out.g
  rw [Hgl.out] at q104
  clear h8
  go_wp2_with fail
  go_loopw [5] (fun i wr => ∃ q : Nat, q ≤ gs.length ∧ i = .int .i64 q ∧ (gs.take q).map Gr.data = (us.take q).map Gr.data ∧ Two w cs ds h k T U wr) (fun i _ => gs.length - (intOf i).toNat)
  case atStart => exact ⟨0, by omega, rfl, rfl, S2.out⟩
  case round =>
    clear S2 q104
    obtain ⟨q, hq, rfl, hall, hs⟩ := hrel
    have S1 := Lib.hid hs
    have Hall := Lib.hid hall
    clear hs hall
    have q104 := S1.out.t.cell C.out.g
    rw [Hgl.out] at q104
    by_cases hlt : q < gs.length
    · have hlu : q < us.length := by have := HLg.out; omega
      have hv := List.getElem?_eq_getElem hlt
      have hu := List.getElem?_eq_getElem hlu
      generalize gs[q] = v at hv
      generalize us[q] = u at hu
      obtain ⟨x, hx, hc⟩ := (Hgr.out.1.below S1.out.t.bel).at hv
      obtain ⟨y, hy, hc'⟩ := (Hur.out.1.below S1.out.u.bel).at hu
      have ok1 := (Hgr.out.2 v (List.mem_of_getElem? hv)).below S1.out.t.bel
      have ok2 := (Hur.out.2 u (List.mem_of_getElem? hu)).below S1.out.u.bel
      have HV := Lib.hid hv
      have HU := Lib.hid hu
      obtain ⟨l0, l1, ⟨a0, cap0⟩, ⟨a1, cap1⟩⟩ := v
      obtain ⟨m0, m1, ⟨b0, bap0⟩, ⟨b1, bap1⟩⟩ := u
      have H0 := Lib.hid ok1.1
      have H1 := Lib.hid ok1.2
      have H2 := Lib.hid ok2.1
      have H3 := Lib.hid ok2.2
      have r104 := S1.out.u.cell D.out.g
      rw [Hul.out] at r104
      have qq104 : Hid (wr.cell? ⟨w.heap.size, 104, none⟩ = some (.slice (some x) gs.length h.g.cap)) := by have := q104; simp only [Sl.val, hx] at this; exact this
      have rr104 : Hid (wr.cell? ⟨w.heap.size + 1, 104, none⟩ = some (.slice (some y) us.length k.g.cap)) := by have := r104; simp only [Sl.val, hy] at this; exact this
      have c0 := hc 0 _ rfl
      have c1 := hc 1 _ rfl
      have d0 := hc' 0 _ rfl
      have d1 := hc' 1 _ rfl
      rw [add_zero] at c0 d0
      rw [add_one] at c1 d1
      have C0 := Lib.hid (And.intro c0 c1)
      have D0 := Lib.hid (And.intro d0 d1)
      clear r104 hc hc' hv hu ok1 ok2 hx hy c0 c1 d0 d1
      go_wp2_with fail
      refine groups_rg w wr q gs.length us.length h.g.cap k.g.cap x y a0 a1 b0 b1 cap0 cap1 bap0 bap1 l0 l1 m0 m1 hlt hlu Kg Ku qq104 rr104 C0 D0 H0 H1 H2 H3 _ _ _ _ _ _ _ _ _ _ _ _ _ _ _ _ _ _ _ _ _ _ _ _ _ _ _ _ _ _ _ _ _ _ _ _ _ _ _ _ _ _ _ _ _ _ _ _ _ _ _ _ _ _ _ _ _ _ _ _ _ _ _ _ _ _ _ _ _ _ _ _ _ _ _ _ _ _ _ _ _ _ _ _ _ _ _ _ _ _ _ _ _ _ _ _ _ _ _ _ _ _ _ _ _ _ _ _ _ _ _ _ _ _ _ _ _ _ _ _ _ _ _ _ _ _ _ _ _ _ _ _ _ _ _ _ _ _ _ _ _ _ _ _ _ _ _ _ _ _ _ _ _ _ _ _ _ _ _ _ _ _ _ _ _ _ _ _ _ _ _ _ _ _ _ _ _ _ _ _ _ _ _ _ _ _ _ _ _ _ _ _ _ _ _ _ _ _ _ _ _ _ _ _ _ _ _ _ _ _ _ _ _ _ _ _ _ _ _ _ _ _ _ _ _ _ _ _ _ _ _ _ _ _ _ _ _ _ _ _ (Lib.hid ?_)
      intro x105 x106 x107 x108 x109 x110 x111 x112 x113 x114 x115 x116 x117 x118 x119 x120 x121 x122 x123 x124 x125 x126 x127 x128 x129 x130 x131 x132 x133 b w3 hbq hb3
      have S3 := Lib.hid (S1.out.step hb3)
      clear hb3 q104 qq104 rr104 C0 D0 H0 H1 H2 H3 S1
      cases b
      · have HD := Lib.hid (hbq.1 rfl)
        clear hbq
        go_wp2
        go_roundw
        case rel => exact ⟨q + 1, by omega, by go_num, data_step HV.out HU.out Hall.out (by simp only [Gr.data, HD.out.1, HD.out.2]), S3.out⟩
        case measure => simp [intOf]; omega
      · have NE : Hid (¬ T = U) := fun e => data_break HV.out HU.out (fun e => by
          simp only [Gr.data, Prod.mk.injEq] at e
          have := hbq.2 e
          simp at this) (GD.out.2 (by rw [e]))
        clear hbq
        go_wp2
        go_ret
        exact ⟨ret_bool (decide_eq_false NE.out).symm, S3.out.t.bel⟩
    · have HG : Hid (T.groups = U.groups) := GD.out.1 (by
        have e := Hall.out
        rwa [List.take_of_length_le (by omega), List.take_of_length_le (by have := HLg.out; omega)] at e)
      have q113 := S1.out.t.cell C.out.d
      clear Hall
      go_wp2_with fail
      clear q104
      go_loopw [6] (fun i wr => ∃ q : Nat, q ≤ T.dets.length ∧ i = .int .i64 q ∧ T.dets.take q = U.dets.take q ∧ Two w cs ds h k T U wr) (fun i _ => T.dets.length - (intOf i).toNat)
      case atStart => exact ⟨0, by omega, rfl, rfl, S1.out⟩
      case round =>
        clear S1 q113
        obtain ⟨q, hq, rfl, hall, hs⟩ := hrel
        have S1 := Lib.hid hs
        have Hall := Lib.hid hall
        clear hs hall
        have q113 := S1.out.t.cell C.out.d
        by_cases hlt : q < T.dets.length
        · have hlu : q < U.dets.length := by have := HH.out.h5; omega
          have hv := List.getElem?_eq_getElem hlt
          have hu := List.getElem?_eq_getElem hlu
          generalize T.dets[q] = v0 at hv
          generalize U.dets[q] = u0 at hu
          obtain ⟨x, hx, hc⟩ := S1.out.t.tab.dets.at hv
          obtain ⟨y, hy, hc'⟩ := S1.out.u.tab.dets.at hu
          have HV := Lib.hid hv
          have HU := Lib.hid hu
          have HC := Lib.hid hc
          have HC' := Lib.hid hc'
          have r113 := S1.out.u.cell D.out.d
          have qq113 : Hid (wr.cell? ⟨w.heap.size, 113, none⟩ = some (.slice (some x) T.dets.length h.d.cap)) := by have := q113; simp only [Sl.val, hx] at this; exact this
          have rr113 : Hid (wr.cell? ⟨w.heap.size + 1, 113, none⟩ = some (.slice (some y) U.dets.length k.d.cap)) := by have := r113; simp only [Sl.val, hy] at this; exact this
          clear r113 hc hc' hv hu hx hy
          go_upto_region 13 with fail
          refine boxes_rg (fun c a a' w e h => by cases a; cases a'; cases e; exact h) w wr q T.dets.length U.dets.length h.d.cap k.d.cap x y v0 u0 hlt hlu Kd Kd' qq113 rr113 HC HC' _ _ _ _ _ _ _ _ _ _ _ _ _ _ _ _ _ _ _ _ _ _ _ _ _ _ _ _ _ _ _ _ _ _ _ _ _ _ _ _ _ _ _ _ _ _ _ _ _ _ _ _ _ _ _ _ _ _ _ _ _ _ _ _ _ _ _ _ _ _ _ _ _ _ _ _ _ _ _ _ _ _ _ _ _ _ _ _ _ _ _ _ _ _ _ _ _ _ _ _ _ _ _ _ _ _ _ _ _ _ _ _ _ _ _ _ _ _ _ _ _ _ _ _ _ _ _ _ _ _ _ _ _ _ _ _ _ _ _ _ _ _ _ _ _ _ _ _ _ _ _ _ _ _ _ _ _ _ _ _ _ _ _ _ _ _ _ _ _ _ _ _ _ _ _ _ _ _ _ _ _ _ _ _ _ _ _ _ _ _ _ _ _ _ _ _ _ _ _ _ _ _ _ _ _ _ _ _ _ _ _ _ _ _ _ _ _ _ _ _ _ _ _ _ _ _ _ _ _ _ _ _ _ _ _ _ _ _ _ _ (Lib.hid ?_)
          intro x142 x143 x144 x145 x146 x147 x148 x149 x150 x151 g7 g8 wb hg7 hg8 hbx
          have S2 := Lib.hid (S1.out.step hbx)
          have G7 := Lib.hid hg7
          have G8 := Lib.hid hg8
          clear hg7 hg8 hbx q113 qq113 rr113 HC HC' S1
          go_upto_region 14 with fail
          refine dets_rg wb g7 g8 v0 u0 G7.out G8.out _ _ _ _ _ _ _ _ _ _ _ _ _ _ _ _ _ _ _ _ _ _ _ _ _ _ _ _ _ _ _ _ _ _ _ _ _ _ _ _ _ _ _ _ _ _ _ _ _ _ _ _ _ _ _ _ _ _ _ _ _ _ _ _ _ _ _ _ _ _ _ _ _ _ _ _ _ _ _ _ _ _ _ _ _ _ _ _ _ _ _ _ _ _ _ _ _ _ _ _ _ _ _ _ _ _ _ _ _ _ _ _ _ _ _ _ _ _ _ _ _ _ _ _ _ _ _ _ _ _ _ _ _ _ _ _ _ _ _ _ _ _ _ _ _ _ _ _ _ _ _ _ _ _ _ _ _ _ _ _ _ _ _ _ _ _ _ _ _ _ _ _ _ _ _ _ _ _ _ _ _ _ _ _ _ _ _ _ _ _ _ _ _ _ _ _ _ _ _ _ _ _ _ _ _ _ _ _ _ _ _ _ _ _ _ _ _ _ _ _ _ _ _ _ _ _ _ _ _ _ _ _ _ _ _ _ _ _ _ _ _ (Lib.hid ?_)
          intro x152 x153 x154 x155 x156 x157 x158 x159 x160 x161 x162 x163 x164 x165 x166 x167 x168 x169 x170 x171 x172 x173 x174 x175 x176 x177 x178 x179 x180 x181 x182 x183 x184 x185 x186 x187 x188 x189 x190 x191 x192 x193 x194 x195 x196 x197 x198 x199 x200 x201 x202 x203 x204 x205 b w3 hbq hb3
          have S3 := Lib.hid (S2.out.step hb3)
          clear hb3 G7 G8 S2
          cases b
          · have EQ := Lib.hid (hbq.1 rfl)
            clear hbq
            go_wp2
            go_roundw
            case rel => exact ⟨q + 1, by omega, by go_num, eq_step HV.out HU.out Hall.out EQ.out, S3.out⟩
            case measure => simp [intOf]; omega
          · have NE : Hid (¬ T = U) := fun e => eq_break HV.out HU.out (fun e => by
              have := hbq.2 e
              simp at this) (by rw [e])
            clear hbq
            go_wp2
            go_ret
            exact ⟨ret_bool (decide_eq_false NE.out).symm, S3.out.t.bel⟩
        · have HD : Hid (T.dets = U.dets) := Lib.hid (eq_end Hall.out HH.out.h5 hlt)
          have q114 := S1.out.t.cell C.out.r
          clear Hall
          go_wp2_with fail
          clear q113
          go_loopw [9] (fun i wr => ∃ q : Nat, q ≤ T.rails.length ∧ i = .int .i64 q ∧ T.rails.take q = U.rails.take q ∧ Two w cs ds h k T U wr) (fun i _ => T.rails.length - (intOf i).toNat)
          case atStart => exact ⟨0, by omega, rfl, rfl, S1.out⟩
          case round =>
            clear S1 q114
            obtain ⟨q, hq, rfl, hall, hs⟩ := hrel
            have S1 := Lib.hid hs
            have Hall := Lib.hid hall
            clear hs hall
            have q114 := S1.out.t.cell C.out.r
            by_cases hlt : q < T.rails.length
            · skip
              have hlu : q < U.rails.length := by have := HH.out.h6; omega
              have hv := List.getElem?_eq_getElem hlt
              have hu := List.getElem?_eq_getElem hlu
              generalize T.rails[q] = v at hv
              generalize U.rails[q] = u at hu
              obtain ⟨x, hx, hc⟩ := S1.out.t.tab.rails.at hv
              obtain ⟨y, hy, hc'⟩ := S1.out.u.tab.rails.at hu
              have HV := Lib.hid hv
              have HU := Lib.hid hu
              have HC := Lib.hid hc
              have HC' := Lib.hid hc'
              have r := S1.out.u.cell D.out.r
              have qq : Hid (wr.cell? ⟨w.heap.size, 114, none⟩ = some (.slice (some x) T.rails.length h.r.cap)) := by have := q114; simp only [Sl.val, hx] at this; exact this
              have rr : Hid (wr.cell? ⟨w.heap.size + 1, 114, none⟩ = some (.slice (some y) U.rails.length k.r.cap)) := by have := r; simp only [Sl.val, hy] at this; exact this
              clear r hc hc' hv hu hx hy
              go_upto_region 19 with fail
              have f1 : ∀ p : Ph.S (Row.Old wr), p.world.cell? ⟨w.heap.size, 114, none⟩ = some (.slice (some x) T.rails.length h.r.cap) := fun p => (p.is.cell (World.block_lt_of_cell? wr _ qq.out)).trans qq.out
              have f2 : ∀ p : Ph.S (Row.Old wr), p.world.cell? ⟨w.heap.size + 1, 114, none⟩ = some (.slice (some y) U.rails.length k.r.cap) := fun p => (p.is.cell (World.block_lt_of_cell? wr _ rr.out)).trans rr.out
              have hne : Nonempty (Ph.S (Row.Old wr)) := ⟨⟨0, wr, Below.refl _ _⟩⟩
              clear q114
              refine Pw.region (Row.Old wr) [] (by kernel_rfl) (by kernel_rfl) (Row.Old.drew _) ?_
              iterate 4
                (refine Pw.calm rfl (fun K hK => ?_)
                 go_simp
                 refine hK _ ?_
                 clear hK K)
              refine Pw.load rfl rfl 46 _ rfl (x.add (q * 11)) rfl v.cells _ (fun p => HC.out.below p.is) Try.underlying46 rfl infoR ?_
              (try dsimp only [Act.put]); (try simp only [List.setIfInBounds_toArray, List.set_cons_zero, List.set_cons_succ])
              iterate 4
                (refine Pw.calm rfl (fun K hK => ?_)
                 go_simp
                 refine hK _ ?_
                 clear hK K)
              refine Pw.load rfl rfl 46 _ rfl (y.add (q * 11)) rfl u.cells _ (fun p => HC'.out.below p.is) Try.underlying46 rfl infoR ?_
              (try dsimp only [Act.put]); (try simp only [List.setIfInBounds_toArray, List.set_cons_zero, List.set_cons_succ])
              refine Pw.neq 46 _ _ _ rfl rfl rfl v.cells.toArray u.cells.toArray rfl rfl guardR _ (rail_eqs v u) ?_
              (try dsimp only [Act.put]); (try simp only [List.setIfInBounds_toArray, List.set_cons_zero, List.set_cons_succ])
              refine Pw.nil ?_
              intro w3 hb3
              have S3 := Lib.hid (S1.out.step hb3)
              clear hb3 hne f1 f2
              by_cases hvu : v = u
              · have HE := Lib.hid hvu
                rw [decide_eq_true hvu]
                clear hvu
                simp only [Bool.not_true]
                go_wp2
                go_roundw
                case rel => exact ⟨q + 1, by omega, by go_num, eq_step HV.out HU.out Hall.out HE.out, S3.out⟩
                case measure => simp [intOf]; omega
              · have NE : Hid (¬ T = U) := fun e => eq_break HV.out HU.out hvu (by rw [e])
                rw [decide_eq_false hvu]
                clear hvu
                simp only [Bool.not_false]
                go_wp2
                go_ret
                exact ⟨ret_bool (decide_eq_false NE.out).symm, S3.out.t.bel⟩
            · have HErails : Hid (T.rails = U.rails) := Lib.hid (eq_end Hall.out HH.out.h6 hlt)
              clear Hall
              have q115 := S1.out.t.cell C.out.b
              go_wp2_with fail
              clear q114
              go_loopw [10] (fun i wr => ∃ q : Nat, q ≤ T.buses.length ∧ i = .int .i64 q ∧ T.buses.take q = U.buses.take q ∧ Two w cs ds h k T U wr) (fun i _ => T.buses.length - (intOf i).toNat)
              case atStart => exact ⟨0, by omega, rfl, rfl, S1.out⟩
              case round =>
                clear S1 q115
                obtain ⟨q, hq, rfl, hall, hs⟩ := hrel
                have S1 := Lib.hid hs
                have Hall := Lib.hid hall
                clear hs hall
                have q115 := S1.out.t.cell C.out.b
                by_cases hlt : q < T.buses.length
                · skip
                  have hlu : q < U.buses.length := by have := HH.out.h7; omega
                  have hv := List.getElem?_eq_getElem hlt
                  have hu := List.getElem?_eq_getElem hlu
                  generalize T.buses[q] = v at hv
                  generalize U.buses[q] = u at hu
                  obtain ⟨x, hx, hc⟩ := S1.out.t.tab.buses.at hv
                  obtain ⟨y, hy, hc'⟩ := S1.out.u.tab.buses.at hu
                  have HV := Lib.hid hv
                  have HU := Lib.hid hu
                  have HC := Lib.hid hc
                  have HC' := Lib.hid hc'
                  have r := S1.out.u.cell D.out.b
                  have qq : Hid (wr.cell? ⟨w.heap.size, 115, none⟩ = some (.slice (some x) T.buses.length h.b.cap)) := by have := q115; simp only [Sl.val, hx] at this; exact this
                  have rr : Hid (wr.cell? ⟨w.heap.size + 1, 115, none⟩ = some (.slice (some y) U.buses.length k.b.cap)) := by have := r; simp only [Sl.val, hy] at this; exact this
                  clear r hc hc' hv hu hx hy
                  go_upto_region 24 with fail
                  have f1 : ∀ p : Ph.S (Row.Old wr), p.world.cell? ⟨w.heap.size, 115, none⟩ = some (.slice (some x) T.buses.length h.b.cap) := fun p => (p.is.cell (World.block_lt_of_cell? wr _ qq.out)).trans qq.out
                  have f2 : ∀ p : Ph.S (Row.Old wr), p.world.cell? ⟨w.heap.size + 1, 115, none⟩ = some (.slice (some y) U.buses.length k.b.cap) := fun p => (p.is.cell (World.block_lt_of_cell? wr _ rr.out)).trans rr.out
                  have hne : Nonempty (Ph.S (Row.Old wr)) := ⟨⟨0, wr, Below.refl _ _⟩⟩
                  clear q115
                  refine Pw.region (Row.Old wr) [] (by kernel_rfl) (by kernel_rfl) (Row.Old.drew _) ?_
                  iterate 4
                    (refine Pw.calm rfl (fun K hK => ?_)
                     go_simp
                     refine hK _ ?_
                     clear hK K)
                  refine Pw.load rfl rfl 48 _ rfl (x.add (q * 2)) rfl v.cells _ (fun p => HC.out.below p.is) Try.underlying48 rfl infoB ?_
                  (try dsimp only [Act.put]); (try simp only [List.setIfInBounds_toArray, List.set_cons_zero, List.set_cons_succ])
                  iterate 4
                    (refine Pw.calm rfl (fun K hK => ?_)
                     go_simp
                     refine hK _ ?_
                     clear hK K)
                  refine Pw.load rfl rfl 48 _ rfl (y.add (q * 2)) rfl u.cells _ (fun p => HC'.out.below p.is) Try.underlying48 rfl infoB ?_
                  (try dsimp only [Act.put]); (try simp only [List.setIfInBounds_toArray, List.set_cons_zero, List.set_cons_succ])
                  refine Pw.neq 48 _ _ _ rfl rfl rfl v.cells.toArray u.cells.toArray rfl rfl guardB _ (bus_eqs v u) ?_
                  (try dsimp only [Act.put]); (try simp only [List.setIfInBounds_toArray, List.set_cons_zero, List.set_cons_succ])
                  refine Pw.nil ?_
                  intro w3 hb3
                  have S3 := Lib.hid (S1.out.step hb3)
                  clear hb3 hne f1 f2
                  by_cases hvu : v = u
                  · have HE := Lib.hid hvu
                    rw [decide_eq_true hvu]
                    clear hvu
                    simp only [Bool.not_true]
                    go_wp2
                    go_roundw
                    case rel => exact ⟨q + 1, by omega, by go_num, eq_step HV.out HU.out Hall.out HE.out, S3.out⟩
                    case measure => simp [intOf]; omega
                  · have NE : Hid (¬ T = U) := fun e => eq_break HV.out HU.out hvu (by rw [e])
                    rw [decide_eq_false hvu]
                    clear hvu
                    simp only [Bool.not_false]
                    go_wp2
                    go_ret
                    exact ⟨ret_bool (decide_eq_false NE.out).symm, S3.out.t.bel⟩
                · have HEbuses : Hid (T.buses = U.buses) := Lib.hid (eq_end Hall.out HH.out.h7 hlt)
                  clear Hall
                  go_wp2
                  go_ret
                  exact ⟨ret_bool (decide_eq_true (tab_eq HH.out.h1 HG.out HH.out.h2 HD.out HErails.out HEbuses.out HH.out.h3 H8.out)).symm, S1.out.t.bel⟩
end Go.Proofs.Ytpofccenoobojaa.Same
