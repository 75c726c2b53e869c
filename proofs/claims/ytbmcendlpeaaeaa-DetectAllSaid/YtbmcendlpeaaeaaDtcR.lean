/- The document's own Detect: the channels of all detectors. -/
import Derived.Test.YtbmcendlpeaaeaaDtcT
import Derived.Test.YtbmcendlpeaaeaaGath
namespace Go.Proofs.Ytbmcendlpeaaeaa.Dtc
open Go.ChangeShapes Go.WideShapes Go.ChangeAt Go.RowKit
open Tab Flat TabArg Copy Go.Proofs.Fl
open Lvl (Lv stp failed)
open Dig (Wd wat stk)
open Dly (Tm tmr)
set_option linter.unusedVariables false
set_option linter.unusedSimpArgs false
set_option maxRecDepth 100000
/-- Blocks older than B, where only what is B or newer has changed. -/
theorem older {w u v : World} {L : List Blk.Bl} {B : Nat} (h : Blk.Bks w L u) (hb : Below B u v) (hB : w.heap.size ≤ B) (hL : ∀ x ∈ L, x.1 < B) : Blk.Bks w L v :=
  ⟨h.bel.trans (hb.mono hB), h.low, fun x hx => (hb.block _ (hL x hx)).trans (h.blk x hx), h.apart⟩
theorem row_blk {B : Nat} {w : World} {e : TypeId} {size : Nat} {v : Value} {n : Nat} {xs : List Value} (h : w.ownsRow B e size v n xs) (j : Nat) (hj : v.ownBlock = some j) : B ≤ j := by
  rcases h.2 with ⟨rfl, _⟩ | ⟨g, cap, cur, rfl, hb, _, _⟩
  · simp [Value.ownBlock] at hj
  · obtain rfl : g = j := by simpa [Value.ownBlock] using hj
    exact hb
set_option maxHeartbeats 8000000 in
theorem rdet_any {T : Tab} {hd : Hd} {w : World} (ht : IsTab w hd T) (few : T.dets.length ≤ 1000) {a : Option Addr} {cap : Nat} {l : List Ch} (hl : RowOf 7 Ch.cells w ⟨a, cap⟩ l) {xa : Option Addr} {cap2 : Nat} {xs : List Nat} (hx : FltRow w ⟨xa, cap2⟩ xs) :
    Calls Try.prog 10 #[.agg (T.cells hd).toArray, .slice a l.length cap, .slice xa xs.length cap2] w fun e w' => ∃ s : Sl, e = .returned (s.val T.dets.length) ∧ RowOf 7 Ch.cells w' s (dts T.dets l xs) ∧ Below w.heap.size w w' := by
  have CK := Lib.hid (cells_ok ht)
  have HR := Lib.hid ht.dets
  have HL := Lib.hid hl
  have HX := Lib.hid hx
  have hxl := hx.1.len
  have hll := hl.len
  obtain ⟨j0, hj, hy0, hy1, hy2⟩ := info_parts infoCz
  generalize hD : dts T.dets l xs = D
  have DL : Hid (D.length = T.dets.length) := Lib.hid (by rw [← hD]; exact dts_len _ _ _)
  have DA : Hid (∀ (i : Nat) (d : Det), T.dets[i]? = some d → D[i]? = some (chn d (l.getD i zCh) (xs.getD i NAN))) := Lib.hid (fun i d h => by rw [← hD]; exact dts_at h)
  clear ht hl hx hD
  have q113 := CK.out.d
  generalize (T.cells hd).toArray = tc at *
  obtain ⟨sg, ⟨da, dcap⟩, sr, sb⟩ := hd
  generalize T.dets = ds at *
  generalize hn : ds.length = n at *
  have HN := Lib.hid hn
  generalize hn1 : l.length = n1 at *
  have HN1 := Lib.hid hn1
  generalize hn2 : xs.length = n2 at *
  have HN2 := Lib.hid hn2
  unfold maxLen at hxl hll
  obtain ⟨hx1, hx2⟩ := hxl
  obtain ⟨hl1, hl2⟩ := hll
  clear hn hn1 hn2 CK
  have h0 := (Blk.Bks.nil w).alloc tc 31
  go_enter Try.func10, Try.ntmps10
  go_upto_region 1 with fail
  have hu : w.heap.size + 1 = (w.alloc (.cells tc 31)).heap.size := by simp
  generalize World.alloc w _ = u at h0 hu ⊢
  obtain ⟨B, hBe⟩ : ∃ B, B = u.heap.size := ⟨_, rfl⟩
  have hgt : w.heap.size < B := by omega
  have hwB : w.heap.size ≤ B := by omega
  generalize w.heap.size = gt at h0 hgt ⊢
  have H0 := Lib.hid h0
  clear h0 hu
  go_wp2_with fail
  go_loopw [7, 8] (fun v i wr => ∃ (q : Nat), q ≤ n ∧ i = .int .i64 q ∧ Gath.Owns Ch.cells 7 B wr 63 v (D.take q) ∧ Blk.Bks w [(gt, tc, 31)] wr ∧ B ≤ wr.heap.size) (fun _ i _ => n - (intOf i).toNat)
  case atStart => exact ⟨0, by omega, rfl, Gath.Owns.nil, H0.out, by omega⟩
  case round =>
    clear H0
    obtain ⟨q, hq, rfl, hown, hB, hBw⟩ := hrel
    have HB := Lib.hid hB
    have HO := Lib.hid hown
    clear hB hown
    have k113 : wr.cell? ⟨gt, 113, none⟩ = some (.slice da n dcap) := HB.out.cell 0 113 rfl q113
    by_cases hlt : q < n
    · obtain ⟨d, hd⟩ : ∃ d, ds[q]? = some d := ⟨_, List.getElem?_eq_getElem (by rw [HN.out]; exact hlt)⟩
      obtain ⟨y, hy, hly⟩ := HR.out.at hd
      obtain rfl : da = some y := hy
      have HCQ := Lib.hid (DA.out q d hd)
      clear DA hd
      obtain ⟨ph, on, off, dl, ex, mo, mf⟩ := d
      have HLY := Lib.hid hly
      clear hly
      obtain ⟨⟨⟨b, n'⟩, ⟨wa, wb⟩, h, t, o⟩, hc0⟩ : ∃ c, l.getD q zCh = c := ⟨_, rfl⟩
      obtain ⟨x, hxq⟩ : ∃ x, xs.getD q NAN = x := ⟨_, rfl⟩
      have hxw : x < 18446744073709551616 := by
        rw [← hxq, List.getD_eq_getElem?_getD]
        cases e : xs[q]? with
        | none => show NAN < _; decide
        | some z => exact HX.out.2 z (List.mem_of_getElem? e)
      rw [hc0, hxq] at HCQ
      obtain ⟨⟨⟨b', n2'⟩, ⟨wa', wb'⟩, h', t', o'⟩, hs⟩ : ∃ c, chn ⟨ph, on, off, dl, ex, mo, mf⟩ ⟨⟨b, n'⟩, ⟨wa, wb⟩, h, t, o⟩ x = c := ⟨_, rfl⟩
      rw [hs] at HCQ
      unfold chn at hs
      injection hs with e1 e2 e3
      dsimp only at e1 e2 e3
      rw [e1] at e2 e3
      have HV := Lib.hid e1
      have HW := Lib.hid e2
      have HT := Lib.hid e3
      have HXQ := Lib.hid hxq
      have HXW := Lib.hid hxw
      clear hxq hxw e1 e2 e3
      go_upto_region 6 with fail
      have hr := (Blk.Bks.nil wr).alloc #[Value.bool false, I 0, I 0, I 0, I 0, I 0, Value.bool false] 63
      generalize World.alloc wr _ = W2 at hr ⊢
      generalize wr.heap.size = gc at hr ⊢
      have HR2 := Lib.hid hr
      clear hr k113
      rcases Nat.lt_or_ge q n1 with hq1 | hq1
      · obtain ⟨z, hz, hzl⟩ := HL.out.at (i := q) (v := ⟨⟨b, n'⟩, ⟨wa, wb⟩, h, t, o⟩) (by rw [← hc0, List.getD_eq_getElem?_getD, List.getElem?_eq_getElem (by rw [HN1.out]; exact hq1)]; rfl)
        obtain rfl : a = some z := hz
        have HLZ := Lib.hid (Lies.below hzl (HB.out.bel.trans (HR2.out.bel.mono HB.out.bel.size)))
        clear hzl hc0
        go_upto_region 8 with (first | (refine Row.wpList_load_lies rfl 63 _ rfl (z.add (q * 7)) rfl (Ch.cells ⟨⟨b, n'⟩, ⟨wa, wb⟩, h, t, o⟩) _ HLZ.out Try.underlying63 rfl infoC ?_) | (refine wpList_store_row rfl 63 _ _ rfl gc #[Value.bool b, I n', I wa, I wb, I h, I t, Value.bool o] rfl rfl 63 _ (HR2.out.at 0 rfl) infoC rfl (by simp [Value.oneCell']) ?_))
        have hput := HR2.out.put 0 rfl #[Value.bool b, I n', I wa, I wb, I h, I t, Value.bool o]
        simp only [List.set_cons_zero] at hput
        generalize World.setRow W2 gc _ = W3 at hput ⊢
        have HR3 := Lib.hid hput
        clear hput HR2 HLZ
        rcases Nat.lt_or_ge q n2 with hq2 | hq2
        · obtain ⟨z, hz, hzl⟩ := HX.out.1.at (i := q) (v := x) (by rw [← HXQ.out, List.getD_eq_getElem?_getD, List.getElem?_eq_getElem (by rw [HN2.out]; exact hq2)]; rfl)
          obtain rfl : xa = some z := hz
          have hzc : W3.cell? (z.add q) = some (F x) := Arg.one_below hzl (HB.out.bel.trans (HR3.out.bel.mono HB.out.bel.size))
          clear hzl
          have k113 : W3.cell? ⟨gt, 113, none⟩ = some (.slice (some y) n dcap) := (HB.out.step HR3.out.bel).cell 0 113 rfl q113
          have HLY3 := Lib.hid (Lies.below HLY.out (HB.out.bel.trans (HR3.out.bel.mono HB.out.bel.size)))
          go_upto_region 11 with (go_at_call 16; refine (nan_any _).mono ?_; rintro e w' ⟨rfl, rfl⟩)
          go_upto_region 12 with (first | (refine Row.wpList_load_lies rfl 53 _ rfl (y.add (q * 7)) rfl (Det.cells ⟨ph, on, off, dl, ex, mo, mf⟩) _ HLY3.out Try.underlying53 rfl infoD ?_) | (refine Row.wpList_store_new rfl 53 _ _ rfl _ _ #[I ph, F on, F off, F dl, F ex, I mo, I mf] rfl rfl rfl infoD rfl (by simp [Value.oneCell']) ?_))
          have hr := HR3.out.alloc #[I ph, F on, F off, F dl, F ex, I mo, I mf] 53
          generalize World.alloc W3 _ = W5 at hr ⊢
          generalize W3.heap.size = gd at hr ⊢
          have HR5 := Lib.hid hr
          clear hr k113 HLY3 HR3
          have k0_0 : W5.cell? ⟨gd, 0, none⟩ = some (I ph) := HR5.out.cell 0 0 rfl rfl
          have k0_1 : W5.cell? ⟨gd, 1, none⟩ = some (F on) := HR5.out.cell 0 1 rfl rfl
          have k0_2 : W5.cell? ⟨gd, 2, none⟩ = some (F off) := HR5.out.cell 0 2 rfl rfl
          have k0_3 : W5.cell? ⟨gd, 3, none⟩ = some (F dl) := HR5.out.cell 0 3 rfl rfl
          have k0_4 : W5.cell? ⟨gd, 4, none⟩ = some (F ex) := HR5.out.cell 0 4 rfl rfl
          have k0_5 : W5.cell? ⟨gd, 5, none⟩ = some (I mo) := HR5.out.cell 0 5 rfl rfl
          have k0_6 : W5.cell? ⟨gd, 6, none⟩ = some (I mf) := HR5.out.cell 0 6 rfl rfl
          go_upto_region 14 with (go_at_call 23; refine (rticks_is rfl rfl _).mono ?_; rintro e w' ⟨rfl, rfl⟩)
          have k1_0 : W5.cell? ⟨gc, 0, none⟩ = some (Value.bool b) := HR5.out.cell 1 0 rfl rfl
          have k1_1 : W5.cell? ⟨gc, 1, none⟩ = some (I n') := HR5.out.cell 1 1 rfl rfl
          have k1_2 : W5.cell? ⟨gc, 2, none⟩ = some (I wa) := HR5.out.cell 1 2 rfl rfl
          have k1_3 : W5.cell? ⟨gc, 3, none⟩ = some (I wb) := HR5.out.cell 1 3 rfl rfl
          have k1_4 : W5.cell? ⟨gc, 4, none⟩ = some (I h) := HR5.out.cell 1 4 rfl rfl
          have k1_5 : W5.cell? ⟨gc, 5, none⟩ = some (I t) := HR5.out.cell 1 5 rfl rfl
          have k1_6 : W5.cell? ⟨gc, 6, none⟩ = some (Value.bool o) := HR5.out.cell 1 6 rfl rfl
          go_wp2_with fail
          refine (Lvl.rstep_is HXW.out HV.out _).mono ?_
          rintro e W6 ⟨rfl, b6⟩
          clear k0_0 k0_1 k0_2 k0_3 k0_4 k0_5 k0_6 k1_0 k1_1 k1_2 k1_3 k1_4 k1_5 k1_6
          go_upto_region 15 with fail
          have hr := (HR5.out.step b6).alloc #[Value.bool b', I n2'] 57
          generalize World.alloc W6 _ = W7 at hr ⊢
          generalize W6.heap.size = gl at hr ⊢
          have HR7 := Lib.hid hr
          clear hr b6 HR5
          have k0_0 : ∀ p : QB.By W7.heap.size W7, p.world.cell? ⟨gl, 0, none⟩ = some (Value.bool b') := fun p => (HR7.out.by p).cell 0 0 rfl rfl
          have k0_1 : ∀ p : QB.By W7.heap.size W7, p.world.cell? ⟨gl, 1, none⟩ = some (I n2') := fun p => (HR7.out.by p).cell 0 1 rfl rfl
          have k2_0 : ∀ p : QB.By W7.heap.size W7, p.world.cell? ⟨gc, 0, none⟩ = some (Value.bool b) := fun p => (HR7.out.by p).cell 2 0 rfl rfl
          have k2_1 : ∀ p : QB.By W7.heap.size W7, p.world.cell? ⟨gc, 1, none⟩ = some (I n') := fun p => (HR7.out.by p).cell 2 1 rfl rfl
          have k2_2 : ∀ p : QB.By W7.heap.size W7, p.world.cell? ⟨gc, 2, none⟩ = some (I wa) := fun p => (HR7.out.by p).cell 2 2 rfl rfl
          have k2_3 : ∀ p : QB.By W7.heap.size W7, p.world.cell? ⟨gc, 3, none⟩ = some (I wb) := fun p => (HR7.out.by p).cell 2 3 rfl rfl
          have k2_4 : ∀ p : QB.By W7.heap.size W7, p.world.cell? ⟨gc, 4, none⟩ = some (I h) := fun p => (HR7.out.by p).cell 2 4 rfl rfl
          have k2_5 : ∀ p : QB.By W7.heap.size W7, p.world.cell? ⟨gc, 5, none⟩ = some (I t) := fun p => (HR7.out.by p).cell 2 5 rfl rfl
          have k2_6 : ∀ p : QB.By W7.heap.size W7, p.world.cell? ⟨gc, 6, none⟩ = some (Value.bool o) := fun p => (HR7.out.by p).cell 2 6 rfl rfl
          refine QT.region1 W7.heap.size 15 (by kernel_rfl) (by kernel_rfl) (by kernel_rfl) (by kernel_rfl) (v := u7) (fun _ _ _ h => h) (Or.inl ⟨by rfl, fun w' => by go_simp; try rfl⟩) ?_
          dsimp only [Act.put]
          simp only [List.setIfInBounds_toArray, List.set_cons_zero, List.set_cons_succ, List.take_succ_cons, List.take_zero, List.drop_succ_cons, List.drop_zero]
          repeat (quiet_step (first
            | (go_at_call 26; exact QB.call_of (Nat.le_refl _) (fun b => Lvl.rseen_is _))
            | (go_at_call 25; exact QB.call_of (Nat.le_refl _) (fun b => Dig.rwatch_is HW.out _))
            | (go_at_call 27; exact QB.call_of (Nat.le_refl _) (fun b => Dly.rstep_is HT.out _))))
          refine wpQuiet_nil ?_
          intro _ hw'
          obtain ⟨p, rfl⟩ := hw'
          have HR8 := Lib.hid (HR7.out.by p)
          clear HR7 k0_0 k0_1 k2_0 k2_1 k2_2 k2_3 k2_4 k2_5 k2_6
          generalize p.world = W8 at HR8 ⊢
          have HO8 : Hid (Gath.Owns Ch.cells 7 B W8 63 u7 (D.take q)) := Lib.hid (HO.out.below HR8.out.bel)
          have hsz8 := HR8.out.bel.size
          have htq : (D.take q).length = q := by rw [List.length_take, DL.out]; omega
          go_wp2_with (at_builtin; refine wpList_append_own _ rfl _ _ 32 rfl B 63 j0 (.agg #[Value.bool false, I 0, I 0, I 0, I 0, I 0, Value.bool false]) 7 56 Try.underlying32 hj hy0 hy1 hy2 rfl (by decide) _ _ _ rfl (World.ownsRow.alloc HO8.out _) ⟨W8.heap.size, 0, none⟩ 1 1 [Value.bool b', I n2', I wa', I wb', I h', I t', Value.bool o'] rfl rfl ?c1 ?c2 ?c3 ?c4 ?c5 ?_)
          case c1 => exact Row.lies_new W8 _ _
          case c2 => simp [Value.oneCell']
          case c3 => unfold maxLen; omega
          case c4 => omega
          case c5 => simp; omega
          intro v' W9 hown' hgrow hnil'
          have hbel : Below B wr W9 := ((HR8.out.bel.mono hBw).alloc (by omega) _).grown hgrow (by simp; omega) (fun j hj => row_blk HO8.out j hj)
          have HO9 : Hid (Gath.Owns Ch.cells 7 B W9 63 v' (D.take (q + 1))) := Lib.hid (by
            rw [List.take_add_one, HCQ.out]
            exact Gath.Owns.snoc (x := (⟨⟨b', n2'⟩, ⟨wa', wb'⟩, h', t', o'⟩ : Ch)) (by first | exact hown' | (rw [htq, hBe]; exact hown') | (rw [htq]; exact hown')))
          have HB9 := Lib.hid (older HB.out hbel (by omega) (by intro x hx; simp at hx; subst hx; exact hgt))
          have hB9 := hbel.size
          clear hown' hgrow hnil' hbel HR8 HO8
          go_wp2
          go_roundw
          case rel => exact ⟨q + 1, by omega, by go_num, HO9.out, HB9.out, by omega⟩
          case measure => simp [intOf]; omega
        · obtain rfl : NAN = x := by rw [← HXQ.out, List.getD_eq_getElem?_getD, List.getElem?_eq_none (by rw [HN2.out]; exact hq2)]; rfl
          have k113 : W3.cell? ⟨gt, 113, none⟩ = some (.slice (some y) n dcap) := (HB.out.step HR3.out.bel).cell 0 113 rfl q113
          have HLY3 := Lib.hid (Lies.below HLY.out (HB.out.bel.trans (HR3.out.bel.mono HB.out.bel.size)))
          go_upto_region 11 with (go_at_call 16; refine (nan_any _).mono ?_; rintro e w' ⟨rfl, rfl⟩)
          go_upto_region 12 with (first | (refine Row.wpList_load_lies rfl 53 _ rfl (y.add (q * 7)) rfl (Det.cells ⟨ph, on, off, dl, ex, mo, mf⟩) _ HLY3.out Try.underlying53 rfl infoD ?_) | (refine Row.wpList_store_new rfl 53 _ _ rfl _ _ #[I ph, F on, F off, F dl, F ex, I mo, I mf] rfl rfl rfl infoD rfl (by simp [Value.oneCell']) ?_))
          have hr := HR3.out.alloc #[I ph, F on, F off, F dl, F ex, I mo, I mf] 53
          generalize World.alloc W3 _ = W5 at hr ⊢
          generalize W3.heap.size = gd at hr ⊢
          have HR5 := Lib.hid hr
          clear hr k113 HLY3 HR3
          have k0_0 : W5.cell? ⟨gd, 0, none⟩ = some (I ph) := HR5.out.cell 0 0 rfl rfl
          have k0_1 : W5.cell? ⟨gd, 1, none⟩ = some (F on) := HR5.out.cell 0 1 rfl rfl
          have k0_2 : W5.cell? ⟨gd, 2, none⟩ = some (F off) := HR5.out.cell 0 2 rfl rfl
          have k0_3 : W5.cell? ⟨gd, 3, none⟩ = some (F dl) := HR5.out.cell 0 3 rfl rfl
          have k0_4 : W5.cell? ⟨gd, 4, none⟩ = some (F ex) := HR5.out.cell 0 4 rfl rfl
          have k0_5 : W5.cell? ⟨gd, 5, none⟩ = some (I mo) := HR5.out.cell 0 5 rfl rfl
          have k0_6 : W5.cell? ⟨gd, 6, none⟩ = some (I mf) := HR5.out.cell 0 6 rfl rfl
          go_upto_region 14 with (go_at_call 23; refine (rticks_is rfl rfl _).mono ?_; rintro e w' ⟨rfl, rfl⟩)
          have k1_0 : W5.cell? ⟨gc, 0, none⟩ = some (Value.bool b) := HR5.out.cell 1 0 rfl rfl
          have k1_1 : W5.cell? ⟨gc, 1, none⟩ = some (I n') := HR5.out.cell 1 1 rfl rfl
          have k1_2 : W5.cell? ⟨gc, 2, none⟩ = some (I wa) := HR5.out.cell 1 2 rfl rfl
          have k1_3 : W5.cell? ⟨gc, 3, none⟩ = some (I wb) := HR5.out.cell 1 3 rfl rfl
          have k1_4 : W5.cell? ⟨gc, 4, none⟩ = some (I h) := HR5.out.cell 1 4 rfl rfl
          have k1_5 : W5.cell? ⟨gc, 5, none⟩ = some (I t) := HR5.out.cell 1 5 rfl rfl
          have k1_6 : W5.cell? ⟨gc, 6, none⟩ = some (Value.bool o) := HR5.out.cell 1 6 rfl rfl
          go_wp2_with fail
          refine (Lvl.rstep_is HXW.out HV.out _).mono ?_
          rintro e W6 ⟨rfl, b6⟩
          clear k0_0 k0_1 k0_2 k0_3 k0_4 k0_5 k0_6 k1_0 k1_1 k1_2 k1_3 k1_4 k1_5 k1_6
          go_upto_region 15 with fail
          have hr := (HR5.out.step b6).alloc #[Value.bool b', I n2'] 57
          generalize World.alloc W6 _ = W7 at hr ⊢
          generalize W6.heap.size = gl at hr ⊢
          have HR7 := Lib.hid hr
          clear hr b6 HR5
          have k0_0 : ∀ p : QB.By W7.heap.size W7, p.world.cell? ⟨gl, 0, none⟩ = some (Value.bool b') := fun p => (HR7.out.by p).cell 0 0 rfl rfl
          have k0_1 : ∀ p : QB.By W7.heap.size W7, p.world.cell? ⟨gl, 1, none⟩ = some (I n2') := fun p => (HR7.out.by p).cell 0 1 rfl rfl
          have k2_0 : ∀ p : QB.By W7.heap.size W7, p.world.cell? ⟨gc, 0, none⟩ = some (Value.bool b) := fun p => (HR7.out.by p).cell 2 0 rfl rfl
          have k2_1 : ∀ p : QB.By W7.heap.size W7, p.world.cell? ⟨gc, 1, none⟩ = some (I n') := fun p => (HR7.out.by p).cell 2 1 rfl rfl
          have k2_2 : ∀ p : QB.By W7.heap.size W7, p.world.cell? ⟨gc, 2, none⟩ = some (I wa) := fun p => (HR7.out.by p).cell 2 2 rfl rfl
          have k2_3 : ∀ p : QB.By W7.heap.size W7, p.world.cell? ⟨gc, 3, none⟩ = some (I wb) := fun p => (HR7.out.by p).cell 2 3 rfl rfl
          have k2_4 : ∀ p : QB.By W7.heap.size W7, p.world.cell? ⟨gc, 4, none⟩ = some (I h) := fun p => (HR7.out.by p).cell 2 4 rfl rfl
          have k2_5 : ∀ p : QB.By W7.heap.size W7, p.world.cell? ⟨gc, 5, none⟩ = some (I t) := fun p => (HR7.out.by p).cell 2 5 rfl rfl
          have k2_6 : ∀ p : QB.By W7.heap.size W7, p.world.cell? ⟨gc, 6, none⟩ = some (Value.bool o) := fun p => (HR7.out.by p).cell 2 6 rfl rfl
          refine QT.region1 W7.heap.size 15 (by kernel_rfl) (by kernel_rfl) (by kernel_rfl) (by kernel_rfl) (v := u7) (fun _ _ _ h => h) (Or.inl ⟨by rfl, fun w' => by go_simp; try rfl⟩) ?_
          dsimp only [Act.put]
          simp only [List.setIfInBounds_toArray, List.set_cons_zero, List.set_cons_succ, List.take_succ_cons, List.take_zero, List.drop_succ_cons, List.drop_zero]
          repeat (quiet_step (first
            | (go_at_call 26; exact QB.call_of (Nat.le_refl _) (fun b => Lvl.rseen_is _))
            | (go_at_call 25; exact QB.call_of (Nat.le_refl _) (fun b => Dig.rwatch_is HW.out _))
            | (go_at_call 27; exact QB.call_of (Nat.le_refl _) (fun b => Dly.rstep_is HT.out _))))
          refine wpQuiet_nil ?_
          intro _ hw'
          obtain ⟨p, rfl⟩ := hw'
          have HR8 := Lib.hid (HR7.out.by p)
          clear HR7 k0_0 k0_1 k2_0 k2_1 k2_2 k2_3 k2_4 k2_5 k2_6
          generalize p.world = W8 at HR8 ⊢
          have HO8 : Hid (Gath.Owns Ch.cells 7 B W8 63 u7 (D.take q)) := Lib.hid (HO.out.below HR8.out.bel)
          have hsz8 := HR8.out.bel.size
          have htq : (D.take q).length = q := by rw [List.length_take, DL.out]; omega
          go_wp2_with (at_builtin; refine wpList_append_own _ rfl _ _ 32 rfl B 63 j0 (.agg #[Value.bool false, I 0, I 0, I 0, I 0, I 0, Value.bool false]) 7 56 Try.underlying32 hj hy0 hy1 hy2 rfl (by decide) _ _ _ rfl (World.ownsRow.alloc HO8.out _) ⟨W8.heap.size, 0, none⟩ 1 1 [Value.bool b', I n2', I wa', I wb', I h', I t', Value.bool o'] rfl rfl ?c1 ?c2 ?c3 ?c4 ?c5 ?_)
          case c1 => exact Row.lies_new W8 _ _
          case c2 => simp [Value.oneCell']
          case c3 => unfold maxLen; omega
          case c4 => omega
          case c5 => simp; omega
          intro v' W9 hown' hgrow hnil'
          have hbel : Below B wr W9 := ((HR8.out.bel.mono hBw).alloc (by omega) _).grown hgrow (by simp; omega) (fun j hj => row_blk HO8.out j hj)
          have HO9 : Hid (Gath.Owns Ch.cells 7 B W9 63 v' (D.take (q + 1))) := Lib.hid (by
            rw [List.take_add_one, HCQ.out]
            exact Gath.Owns.snoc (x := (⟨⟨b', n2'⟩, ⟨wa', wb'⟩, h', t', o'⟩ : Ch)) (by first | exact hown' | (rw [htq, hBe]; exact hown') | (rw [htq]; exact hown')))
          have HB9 := Lib.hid (older HB.out hbel (by omega) (by intro x hx; simp at hx; subst hx; exact hgt))
          have hB9 := hbel.size
          clear hown' hgrow hnil' hbel HR8 HO8
          go_wp2
          go_roundw
          case rel => exact ⟨q + 1, by omega, by go_num, HO9.out, HB9.out, by omega⟩
          case measure => simp [intOf]; omega
      · have hc0 : zCh = (⟨⟨b, n'⟩, ⟨wa, wb⟩, h, t, o⟩ : Ch) := by rw [← hc0, List.getD_eq_getElem?_getD, List.getElem?_eq_none (by rw [HN1.out]; exact hq1)]; rfl
        unfold zCh at hc0
        injection hc0 with e1 e2 e3
        injection e1 with e11 e12
        injection e2 with e21 e22
        injection e3 with e31 e32 e33
        subst e11 e12 e21 e22 e31 e32 e33
        go_upto_region 8 with fail
        have HR3 := HR2
        clear HR2
        generalize W2 = W3 at HR3 ⊢
        rcases Nat.lt_or_ge q n2 with hq2 | hq2
        · obtain ⟨z, hz, hzl⟩ := HX.out.1.at (i := q) (v := x) (by rw [← HXQ.out, List.getD_eq_getElem?_getD, List.getElem?_eq_getElem (by rw [HN2.out]; exact hq2)]; rfl)
          obtain rfl : xa = some z := hz
          have hzc : W3.cell? (z.add q) = some (F x) := Arg.one_below hzl (HB.out.bel.trans (HR3.out.bel.mono HB.out.bel.size))
          clear hzl
          have k113 : W3.cell? ⟨gt, 113, none⟩ = some (.slice (some y) n dcap) := (HB.out.step HR3.out.bel).cell 0 113 rfl q113
          have HLY3 := Lib.hid (Lies.below HLY.out (HB.out.bel.trans (HR3.out.bel.mono HB.out.bel.size)))
          go_upto_region 11 with (go_at_call 16; refine (nan_any _).mono ?_; rintro e w' ⟨rfl, rfl⟩)
          go_upto_region 12 with (first | (refine Row.wpList_load_lies rfl 53 _ rfl (y.add (q * 7)) rfl (Det.cells ⟨ph, on, off, dl, ex, mo, mf⟩) _ HLY3.out Try.underlying53 rfl infoD ?_) | (refine Row.wpList_store_new rfl 53 _ _ rfl _ _ #[I ph, F on, F off, F dl, F ex, I mo, I mf] rfl rfl rfl infoD rfl (by simp [Value.oneCell']) ?_))
          have hr := HR3.out.alloc #[I ph, F on, F off, F dl, F ex, I mo, I mf] 53
          generalize World.alloc W3 _ = W5 at hr ⊢
          generalize W3.heap.size = gd at hr ⊢
          have HR5 := Lib.hid hr
          clear hr k113 HLY3 HR3
          have k0_0 : W5.cell? ⟨gd, 0, none⟩ = some (I ph) := HR5.out.cell 0 0 rfl rfl
          have k0_1 : W5.cell? ⟨gd, 1, none⟩ = some (F on) := HR5.out.cell 0 1 rfl rfl
          have k0_2 : W5.cell? ⟨gd, 2, none⟩ = some (F off) := HR5.out.cell 0 2 rfl rfl
          have k0_3 : W5.cell? ⟨gd, 3, none⟩ = some (F dl) := HR5.out.cell 0 3 rfl rfl
          have k0_4 : W5.cell? ⟨gd, 4, none⟩ = some (F ex) := HR5.out.cell 0 4 rfl rfl
          have k0_5 : W5.cell? ⟨gd, 5, none⟩ = some (I mo) := HR5.out.cell 0 5 rfl rfl
          have k0_6 : W5.cell? ⟨gd, 6, none⟩ = some (I mf) := HR5.out.cell 0 6 rfl rfl
          go_upto_region 14 with (go_at_call 23; refine (rticks_is rfl rfl _).mono ?_; rintro e w' ⟨rfl, rfl⟩)
          have k1_0 : W5.cell? ⟨gc, 0, none⟩ = some (Value.bool false) := HR5.out.cell 1 0 rfl rfl
          have k1_1 : W5.cell? ⟨gc, 1, none⟩ = some (I 0) := HR5.out.cell 1 1 rfl rfl
          have k1_2 : W5.cell? ⟨gc, 2, none⟩ = some (I 0) := HR5.out.cell 1 2 rfl rfl
          have k1_3 : W5.cell? ⟨gc, 3, none⟩ = some (I 0) := HR5.out.cell 1 3 rfl rfl
          have k1_4 : W5.cell? ⟨gc, 4, none⟩ = some (I 0) := HR5.out.cell 1 4 rfl rfl
          have k1_5 : W5.cell? ⟨gc, 5, none⟩ = some (I 0) := HR5.out.cell 1 5 rfl rfl
          have k1_6 : W5.cell? ⟨gc, 6, none⟩ = some (Value.bool false) := HR5.out.cell 1 6 rfl rfl
          go_wp2_with fail
          refine (Lvl.rstep_is HXW.out HV.out _).mono ?_
          rintro e W6 ⟨rfl, b6⟩
          clear k0_0 k0_1 k0_2 k0_3 k0_4 k0_5 k0_6 k1_0 k1_1 k1_2 k1_3 k1_4 k1_5 k1_6
          go_upto_region 15 with fail
          have hr := (HR5.out.step b6).alloc #[Value.bool b', I n2'] 57
          generalize World.alloc W6 _ = W7 at hr ⊢
          generalize W6.heap.size = gl at hr ⊢
          have HR7 := Lib.hid hr
          clear hr b6 HR5
          have k0_0 : ∀ p : QB.By W7.heap.size W7, p.world.cell? ⟨gl, 0, none⟩ = some (Value.bool b') := fun p => (HR7.out.by p).cell 0 0 rfl rfl
          have k0_1 : ∀ p : QB.By W7.heap.size W7, p.world.cell? ⟨gl, 1, none⟩ = some (I n2') := fun p => (HR7.out.by p).cell 0 1 rfl rfl
          have k2_0 : ∀ p : QB.By W7.heap.size W7, p.world.cell? ⟨gc, 0, none⟩ = some (Value.bool false) := fun p => (HR7.out.by p).cell 2 0 rfl rfl
          have k2_1 : ∀ p : QB.By W7.heap.size W7, p.world.cell? ⟨gc, 1, none⟩ = some (I 0) := fun p => (HR7.out.by p).cell 2 1 rfl rfl
          have k2_2 : ∀ p : QB.By W7.heap.size W7, p.world.cell? ⟨gc, 2, none⟩ = some (I 0) := fun p => (HR7.out.by p).cell 2 2 rfl rfl
          have k2_3 : ∀ p : QB.By W7.heap.size W7, p.world.cell? ⟨gc, 3, none⟩ = some (I 0) := fun p => (HR7.out.by p).cell 2 3 rfl rfl
          have k2_4 : ∀ p : QB.By W7.heap.size W7, p.world.cell? ⟨gc, 4, none⟩ = some (I 0) := fun p => (HR7.out.by p).cell 2 4 rfl rfl
          have k2_5 : ∀ p : QB.By W7.heap.size W7, p.world.cell? ⟨gc, 5, none⟩ = some (I 0) := fun p => (HR7.out.by p).cell 2 5 rfl rfl
          have k2_6 : ∀ p : QB.By W7.heap.size W7, p.world.cell? ⟨gc, 6, none⟩ = some (Value.bool false) := fun p => (HR7.out.by p).cell 2 6 rfl rfl
          refine QT.region1 W7.heap.size 15 (by kernel_rfl) (by kernel_rfl) (by kernel_rfl) (by kernel_rfl) (v := u7) (fun _ _ _ h => h) (Or.inl ⟨by rfl, fun w' => by go_simp; try rfl⟩) ?_
          dsimp only [Act.put]
          simp only [List.setIfInBounds_toArray, List.set_cons_zero, List.set_cons_succ, List.take_succ_cons, List.take_zero, List.drop_succ_cons, List.drop_zero]
          repeat (quiet_step (first
            | (go_at_call 26; exact QB.call_of (Nat.le_refl _) (fun b => Lvl.rseen_is _))
            | (go_at_call 25; exact QB.call_of (Nat.le_refl _) (fun b => Dig.rwatch_is HW.out _))
            | (go_at_call 27; exact QB.call_of (Nat.le_refl _) (fun b => Dly.rstep_is HT.out _))))
          refine wpQuiet_nil ?_
          intro _ hw'
          obtain ⟨p, rfl⟩ := hw'
          have HR8 := Lib.hid (HR7.out.by p)
          clear HR7 k0_0 k0_1 k2_0 k2_1 k2_2 k2_3 k2_4 k2_5 k2_6
          generalize p.world = W8 at HR8 ⊢
          have HO8 : Hid (Gath.Owns Ch.cells 7 B W8 63 u7 (D.take q)) := Lib.hid (HO.out.below HR8.out.bel)
          have hsz8 := HR8.out.bel.size
          have htq : (D.take q).length = q := by rw [List.length_take, DL.out]; omega
          go_wp2_with (at_builtin; refine wpList_append_own _ rfl _ _ 32 rfl B 63 j0 (.agg #[Value.bool false, I 0, I 0, I 0, I 0, I 0, Value.bool false]) 7 56 Try.underlying32 hj hy0 hy1 hy2 rfl (by decide) _ _ _ rfl (World.ownsRow.alloc HO8.out _) ⟨W8.heap.size, 0, none⟩ 1 1 [Value.bool b', I n2', I wa', I wb', I h', I t', Value.bool o'] rfl rfl ?c1 ?c2 ?c3 ?c4 ?c5 ?_)
          case c1 => exact Row.lies_new W8 _ _
          case c2 => simp [Value.oneCell']
          case c3 => unfold maxLen; omega
          case c4 => omega
          case c5 => simp; omega
          intro v' W9 hown' hgrow hnil'
          have hbel : Below B wr W9 := ((HR8.out.bel.mono hBw).alloc (by omega) _).grown hgrow (by simp; omega) (fun j hj => row_blk HO8.out j hj)
          have HO9 : Hid (Gath.Owns Ch.cells 7 B W9 63 v' (D.take (q + 1))) := Lib.hid (by
            rw [List.take_add_one, HCQ.out]
            exact Gath.Owns.snoc (x := (⟨⟨b', n2'⟩, ⟨wa', wb'⟩, h', t', o'⟩ : Ch)) (by first | exact hown' | (rw [htq, hBe]; exact hown') | (rw [htq]; exact hown')))
          have HB9 := Lib.hid (older HB.out hbel (by omega) (by intro x hx; simp at hx; subst hx; exact hgt))
          have hB9 := hbel.size
          clear hown' hgrow hnil' hbel HR8 HO8
          go_wp2
          go_roundw
          case rel => exact ⟨q + 1, by omega, by go_num, HO9.out, HB9.out, by omega⟩
          case measure => simp [intOf]; omega
        · obtain rfl : NAN = x := by rw [← HXQ.out, List.getD_eq_getElem?_getD, List.getElem?_eq_none (by rw [HN2.out]; exact hq2)]; rfl
          have k113 : W3.cell? ⟨gt, 113, none⟩ = some (.slice (some y) n dcap) := (HB.out.step HR3.out.bel).cell 0 113 rfl q113
          have HLY3 := Lib.hid (Lies.below HLY.out (HB.out.bel.trans (HR3.out.bel.mono HB.out.bel.size)))
          go_upto_region 11 with (go_at_call 16; refine (nan_any _).mono ?_; rintro e w' ⟨rfl, rfl⟩)
          go_upto_region 12 with (first | (refine Row.wpList_load_lies rfl 53 _ rfl (y.add (q * 7)) rfl (Det.cells ⟨ph, on, off, dl, ex, mo, mf⟩) _ HLY3.out Try.underlying53 rfl infoD ?_) | (refine Row.wpList_store_new rfl 53 _ _ rfl _ _ #[I ph, F on, F off, F dl, F ex, I mo, I mf] rfl rfl rfl infoD rfl (by simp [Value.oneCell']) ?_))
          have hr := HR3.out.alloc #[I ph, F on, F off, F dl, F ex, I mo, I mf] 53
          generalize World.alloc W3 _ = W5 at hr ⊢
          generalize W3.heap.size = gd at hr ⊢
          have HR5 := Lib.hid hr
          clear hr k113 HLY3 HR3
          have k0_0 : W5.cell? ⟨gd, 0, none⟩ = some (I ph) := HR5.out.cell 0 0 rfl rfl
          have k0_1 : W5.cell? ⟨gd, 1, none⟩ = some (F on) := HR5.out.cell 0 1 rfl rfl
          have k0_2 : W5.cell? ⟨gd, 2, none⟩ = some (F off) := HR5.out.cell 0 2 rfl rfl
          have k0_3 : W5.cell? ⟨gd, 3, none⟩ = some (F dl) := HR5.out.cell 0 3 rfl rfl
          have k0_4 : W5.cell? ⟨gd, 4, none⟩ = some (F ex) := HR5.out.cell 0 4 rfl rfl
          have k0_5 : W5.cell? ⟨gd, 5, none⟩ = some (I mo) := HR5.out.cell 0 5 rfl rfl
          have k0_6 : W5.cell? ⟨gd, 6, none⟩ = some (I mf) := HR5.out.cell 0 6 rfl rfl
          go_upto_region 14 with (go_at_call 23; refine (rticks_is rfl rfl _).mono ?_; rintro e w' ⟨rfl, rfl⟩)
          have k1_0 : W5.cell? ⟨gc, 0, none⟩ = some (Value.bool false) := HR5.out.cell 1 0 rfl rfl
          have k1_1 : W5.cell? ⟨gc, 1, none⟩ = some (I 0) := HR5.out.cell 1 1 rfl rfl
          have k1_2 : W5.cell? ⟨gc, 2, none⟩ = some (I 0) := HR5.out.cell 1 2 rfl rfl
          have k1_3 : W5.cell? ⟨gc, 3, none⟩ = some (I 0) := HR5.out.cell 1 3 rfl rfl
          have k1_4 : W5.cell? ⟨gc, 4, none⟩ = some (I 0) := HR5.out.cell 1 4 rfl rfl
          have k1_5 : W5.cell? ⟨gc, 5, none⟩ = some (I 0) := HR5.out.cell 1 5 rfl rfl
          have k1_6 : W5.cell? ⟨gc, 6, none⟩ = some (Value.bool false) := HR5.out.cell 1 6 rfl rfl
          go_wp2_with fail
          refine (Lvl.rstep_is HXW.out HV.out _).mono ?_
          rintro e W6 ⟨rfl, b6⟩
          clear k0_0 k0_1 k0_2 k0_3 k0_4 k0_5 k0_6 k1_0 k1_1 k1_2 k1_3 k1_4 k1_5 k1_6
          go_upto_region 15 with fail
          have hr := (HR5.out.step b6).alloc #[Value.bool b', I n2'] 57
          generalize World.alloc W6 _ = W7 at hr ⊢
          generalize W6.heap.size = gl at hr ⊢
          have HR7 := Lib.hid hr
          clear hr b6 HR5
          have k0_0 : ∀ p : QB.By W7.heap.size W7, p.world.cell? ⟨gl, 0, none⟩ = some (Value.bool b') := fun p => (HR7.out.by p).cell 0 0 rfl rfl
          have k0_1 : ∀ p : QB.By W7.heap.size W7, p.world.cell? ⟨gl, 1, none⟩ = some (I n2') := fun p => (HR7.out.by p).cell 0 1 rfl rfl
          have k2_0 : ∀ p : QB.By W7.heap.size W7, p.world.cell? ⟨gc, 0, none⟩ = some (Value.bool false) := fun p => (HR7.out.by p).cell 2 0 rfl rfl
          have k2_1 : ∀ p : QB.By W7.heap.size W7, p.world.cell? ⟨gc, 1, none⟩ = some (I 0) := fun p => (HR7.out.by p).cell 2 1 rfl rfl
          have k2_2 : ∀ p : QB.By W7.heap.size W7, p.world.cell? ⟨gc, 2, none⟩ = some (I 0) := fun p => (HR7.out.by p).cell 2 2 rfl rfl
          have k2_3 : ∀ p : QB.By W7.heap.size W7, p.world.cell? ⟨gc, 3, none⟩ = some (I 0) := fun p => (HR7.out.by p).cell 2 3 rfl rfl
          have k2_4 : ∀ p : QB.By W7.heap.size W7, p.world.cell? ⟨gc, 4, none⟩ = some (I 0) := fun p => (HR7.out.by p).cell 2 4 rfl rfl
          have k2_5 : ∀ p : QB.By W7.heap.size W7, p.world.cell? ⟨gc, 5, none⟩ = some (I 0) := fun p => (HR7.out.by p).cell 2 5 rfl rfl
          have k2_6 : ∀ p : QB.By W7.heap.size W7, p.world.cell? ⟨gc, 6, none⟩ = some (Value.bool false) := fun p => (HR7.out.by p).cell 2 6 rfl rfl
          refine QT.region1 W7.heap.size 15 (by kernel_rfl) (by kernel_rfl) (by kernel_rfl) (by kernel_rfl) (v := u7) (fun _ _ _ h => h) (Or.inl ⟨by rfl, fun w' => by go_simp; try rfl⟩) ?_
          dsimp only [Act.put]
          simp only [List.setIfInBounds_toArray, List.set_cons_zero, List.set_cons_succ, List.take_succ_cons, List.take_zero, List.drop_succ_cons, List.drop_zero]
          repeat (quiet_step (first
            | (go_at_call 26; exact QB.call_of (Nat.le_refl _) (fun b => Lvl.rseen_is _))
            | (go_at_call 25; exact QB.call_of (Nat.le_refl _) (fun b => Dig.rwatch_is HW.out _))
            | (go_at_call 27; exact QB.call_of (Nat.le_refl _) (fun b => Dly.rstep_is HT.out _))))
          refine wpQuiet_nil ?_
          intro _ hw'
          obtain ⟨p, rfl⟩ := hw'
          have HR8 := Lib.hid (HR7.out.by p)
          clear HR7 k0_0 k0_1 k2_0 k2_1 k2_2 k2_3 k2_4 k2_5 k2_6
          generalize p.world = W8 at HR8 ⊢
          have HO8 : Hid (Gath.Owns Ch.cells 7 B W8 63 u7 (D.take q)) := Lib.hid (HO.out.below HR8.out.bel)
          have hsz8 := HR8.out.bel.size
          have htq : (D.take q).length = q := by rw [List.length_take, DL.out]; omega
          go_wp2_with (at_builtin; refine wpList_append_own _ rfl _ _ 32 rfl B 63 j0 (.agg #[Value.bool false, I 0, I 0, I 0, I 0, I 0, Value.bool false]) 7 56 Try.underlying32 hj hy0 hy1 hy2 rfl (by decide) _ _ _ rfl (World.ownsRow.alloc HO8.out _) ⟨W8.heap.size, 0, none⟩ 1 1 [Value.bool b', I n2', I wa', I wb', I h', I t', Value.bool o'] rfl rfl ?c1 ?c2 ?c3 ?c4 ?c5 ?_)
          case c1 => exact Row.lies_new W8 _ _
          case c2 => simp [Value.oneCell']
          case c3 => unfold maxLen; omega
          case c4 => omega
          case c5 => simp; omega
          intro v' W9 hown' hgrow hnil'
          have hbel : Below B wr W9 := ((HR8.out.bel.mono hBw).alloc (by omega) _).grown hgrow (by simp; omega) (fun j hj => row_blk HO8.out j hj)
          have HO9 : Hid (Gath.Owns Ch.cells 7 B W9 63 v' (D.take (q + 1))) := Lib.hid (by
            rw [List.take_add_one, HCQ.out]
            exact Gath.Owns.snoc (x := (⟨⟨b', n2'⟩, ⟨wa', wb'⟩, h', t', o'⟩ : Ch)) (by first | exact hown' | (rw [htq, hBe]; exact hown') | (rw [htq]; exact hown')))
          have HB9 := Lib.hid (older HB.out hbel (by omega) (by intro x hx; simp at hx; subst hx; exact hgt))
          have hB9 := hbel.size
          clear hown' hgrow hnil' hbel HR8 HO8
          go_wp2
          go_roundw
          case rel => exact ⟨q + 1, by omega, by go_num, HO9.out, HB9.out, by omega⟩
          case measure => simp [intOf]; omega
    · obtain rfl : q = n := by omega
      rw [← DL.out, List.take_length] at HO
      obtain ⟨sl, rfl, hrow⟩ := HO.out.row Ch.len
      have HROW := Lib.hid hrow
      have HBB := Lib.hid HB.out.bel
      rw [DL.out]
      clear hrow
      go_wp2
      go_ret
      exact ⟨_, rfl, HROW.out, HBB.out⟩
end Go.Proofs.Ytbmcendlpeaaeaa.Dtc
