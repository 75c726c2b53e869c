/- DetectPlays returns true at any numbers of a table and any numbers of a script: the channels, and who is called, are those of the document's own answers, tick by tick. No condition. -/
import Derived.Test.YtbmcendlpeaaeaaRows
import Derived.Test.YtbmcendlpeaaeaaPart10
import Derived.Test.YtbmcendlpeaaeaaPart01
import Derived.Test.YtbmcendlpeaaeaaPart02
import Derived.Deep.Cut
import Derived.LoopTactic
import Derived.BigQuiet
import Derived.Test.YtbmcendlpeaaeaaPart11
import Derived.WalkKit
import Derived.WalkLawsBesides
import Derived.ProofKit
import Derived.OpenShut
import Derived.ShutString
import Derived.ChangeOld
import Derived.Below
set_option linter.unusedVariables false
set_option linter.unusedSimpArgs false
set_option linter.unusedSectionVars false
set_option maxHeartbeats 8000000
set_option maxRecDepth 100000
namespace Go.Proofs.Ytbmcendlpeaaeaa
namespace detectPlays
open Go.ChangeShapes Go.WideShapes Go.ChangeAt Go.RowKit
open Tab Dtc
open GenT (genTab)
theorem own : ownKnob Try.prog.godebug = none := by kernel_rfl
theorem laidOut : laidOutB Try.prog = true := by kernel_rfl
/-- WHAT THE WALK IS TOLD OF A SLICE OF INTEGERS THAT CAME IN: it is nil; or it leads to a row of 'cap' cells, the numbers 'zs' (the first 'len' are its elements, the rest its spare room), each fitting its kind. -/
def IsRow (k : IntKind) (w : World) (a : Option Addr) (len cap : Nat) (zs : List Int) : Prop :=
  (a = none ∧ len = 0 ∧ cap = 0 ∧ zs = []) ∨
  ∃ x, a = some x ∧ len ≤ cap ∧ cap ≤ maxLen ∧ zs.length = cap ∧ (∀ i, i < zs.length → w.cell? (x.add i) = some (.int k (zs.getD i 0))) ∧ ∀ n ∈ zs, (Lit.int k n).wf = true
theorem isRow_int {w : World} {a : Option Addr} {len cap : Nat} {zs : List Int} (h : IsRow .i64 w a len cap zs) : (zs.take len).length = len ∧ Tab.IntRow w ⟨a, cap⟩ (zs.take len) := by
  rcases h with ⟨rfl, rfl, rfl, rfl⟩ | ⟨x, rfl, h1, h2, h3, h4, _⟩
  · exact ⟨rfl, .inl ⟨rfl, rfl, rfl⟩⟩
  · have hl : (zs.take len).length = len := by rw [List.length_take]; omega
    refine ⟨hl, .inr ⟨x, rfl, by rw [hl]; exact h1, h2, fun i v hv j u hu => ?_⟩⟩
    have hi : i < len := by have := (List.getElem?_eq_some_iff.1 hv).1; omega
    match j, hu with
    | 0, hu =>
      simp at hu
      subst hu
      rw [List.getElem?_take, if_pos hi] at hv
      have := h4 i (by omega)
      rw [List.getD_eq_getElem?_getD, hv] at this
      rw [Nat.mul_one, Tab.add_two, Nat.add_zero]
      exact this
    | j + 1, hu => simp at hu
/-! ### the walk -/
theorem walk (a0 : Option Addr) (len0 cap0 : Nat) (z0 : List Int) (a1 : Option Addr) (len1 cap1 : Nat) (z1 : List Int) (w : World) (w0 : IsRow .i64 w a0 len0 cap0 z0) (w1 : IsRow .i64 w a1 len1 cap1 z1) :
    Calls Try.prog 4 #[.slice a0 len0 cap0, .slice a1 len1 cap1] w fun e w' => e = .returned (.bool true) ∧ Below w.heap.size w w' := by
  obtain ⟨hlen2, hrow2⟩ := isRow_int w1
  obtain ⟨S, hS⟩ : ∃ S, S = z1.take len1 := ⟨_, rfl⟩
  rw [← hS] at hlen2 hrow2
  clear hS w1
  subst hlen2
  obtain ⟨hlen, hrow⟩ := isRow_int w0
  obtain ⟨L, hL⟩ : ∃ L, L = z0.take len0 := ⟨_, rfl⟩
  rw [← hL] at hlen hrow
  clear hL w0
  subst hlen
  have hz := (zero_of_info GenT.infoTz).1
  have hZs : (Clone.zTab.cells Clone.zHd).length = 131 := rfl
  generalize hZ : GenT.zTab.cells GenT.zHd = Z at *
  have ZS : Z.toArray.size = 131 := by rw [← hZ]; rfl
  clear hZ hZs
  have GD := Lib.hid (gen_dets_len L)
  go_enter Try.func4, Try.ntmps4
  go_wp2_with fail
  refine (GenT.table_any a0 cap0 L w hrow).mono ?_
  rintro e u0 ⟨hd, rfl, ht, hb⟩
  have CS := GenT.cells_cut hd ht.ph ht.cf ht.fl
  have ON := (cells_ok ht).one
  have HT : Hid (∀ W, Below u0.heap.size u0 W → IsTab W hd (genTab L)) := Lib.hid (fun W hb => ht.below hb)
  have B0 := Lib.hid hb
  have IA : Hid ((Try.prog.info? 31).map (·.size) = some ((genTab L).cells hd).length) := Lib.hid (by rw [CS]; exact infoT)
  clear hb ht
  generalize hc : (genTab L).cells hd = c at *
  have HC := Lib.hid hc
  clear hc
  go_upto_region 2 with (refine Row.wpList_store_new rfl 31 _ _ rfl u0 Z.toArray c.toArray rfl rfl rfl (by rw [List.size_toArray]; exact IA.out) (by rw [ZS, List.size_toArray, CS]) ON ?_)
  have hb2 : Below u0.heap.size u0 (u0.alloc (.cells c.toArray 31)) := (Below.refl _ _).alloc (Nat.le_refl _) _
  have hl : Lies (u0.alloc (.cells c.toArray 31)) ⟨u0.heap.size, 0, none⟩ c := Row.lies_new _ _ _
  have TB0 : Hid (∀ W, Below (u0.alloc (.cells c.toArray 31)).heap.size (u0.alloc (.cells c.toArray 31)) W → IsTab W hd (genTab L)) := Lib.hid (fun W hb => HT.out W (hb2.trans (hb.mono hb2.size)))
  generalize u0.alloc (.cells c.toArray 31) = u at hb2 hl TB0 ⊢
  have TB : Hid (∀ W, Below u.heap.size u W → IsTab W hd (genTab L)) := TB0
  have A0 : Hid (Below w.heap.size w u) := Lib.hid (B0.out.trans (hb2.mono B0.out.size))
  have A1 : Hid (∀ W, Below u.heap.size u W → Lies W ⟨u0.heap.size, 0, none⟩ c) := Lib.hid (fun W hb => Lies.below hl hb)
  clear hb2 hl TB0 HT B0 hrow hz ZS ON CS
  generalize u0.heap.size = tb at *
  obtain ⟨ds, hds⟩ : ∃ d, (genTab L).dets = d := ⟨_, rfl⟩
  obtain ⟨n, hn⟩ : ∃ m, ds.length = m := ⟨_, rfl⟩
  have HDS := Lib.hid hds
  have HN := Lib.hid hn
  rw [hds, hn] at GD
  clear hds hn
  have few : n ≤ 1000 := by have := GD.out; omega
  have HT := TB
  have ST : Hid (n ≤ 1000 → ∀ W, Below u.heap.size u W → ∀ (a : Option Addr) (cap : Nat) (l : List Ch) (m : Nat) (b : Option Addr) (cap2 : Nat) (xs : List Nat) (k : Nat), RowOf 7 Ch.cells W ⟨a, cap⟩ l → l.length = m → FltRow W ⟨b, cap2⟩ xs → xs.length = k → Calls Try.prog 9 #[.agg c.toArray, .slice a m cap, .slice b k cap2] W fun e w' => ∃ s : Sl, e = .returned (s.val n) ∧ RowOf 7 Ch.cells w' s (dts ds l xs) ∧ Below W.heap.size W w') := Lib.hid (fun few W hb a cap l m b cap2 xs k hl hm hx hk => by subst hm hk; have := step_any (HT.out W hb) (by rw [HDS.out, HN.out]; exact few) hl hx; rw [HC.out, HDS.out, HN.out] at this; exact this)
  have RD : Hid (n ≤ 1000 → ∀ W, Below u.heap.size u W → ∀ (a : Option Addr) (cap : Nat) (l : List Ch) (m : Nat) (b : Option Addr) (cap2 : Nat) (xs : List Nat) (k : Nat), RowOf 7 Ch.cells W ⟨a, cap⟩ l → l.length = m → FltRow W ⟨b, cap2⟩ xs → xs.length = k → Calls Try.prog 10 #[.agg c.toArray, .slice a m cap, .slice b k cap2] W fun e w' => ∃ s : Sl, e = .returned (s.val n) ∧ RowOf 7 Ch.cells w' s (dts ds l xs) ∧ Below W.heap.size W w') := Lib.hid (fun few W hb a cap l m b cap2 xs k hl hm hx hk => by subst hm hk; have := rdet_any (HT.out W hb) (by rw [HDS.out, HN.out]; exact few) hl hx; rw [HC.out, HDS.out, HN.out] at this; exact this)
  have HE : Hid (∀ W, Below u.heap.size u W → ∀ (a : Option Addr) (cap : Nat) (l : List Ch) (m : Nat), RowOf 7 Ch.cells W ⟨a, cap⟩ l → l.length = m → Calls Try.prog 12 #[.agg c.toArray, .slice a m cap] W fun e w' => e = .returned (.int .i64 (her ds l (min n m) : Nat)) ∧ Below W.heap.size W w') := Lib.hid (fun W hb a cap l m hl hm => by subst hm; have := here_any (HT.out W hb) hl; rw [HC.out, HDS.out, HN.out] at this; exact this)
  have RH : Hid (∀ W, Below u.heap.size u W → ∀ (a : Option Addr) (cap : Nat) (l : List Ch) (m : Nat), RowOf 7 Ch.cells W ⟨a, cap⟩ l → l.length = m → Calls Try.prog 13 #[.agg c.toArray, .slice a m cap] W fun e w' => e = .returned (.int .i64 (her ds l (min n m) : Nat)) ∧ Below W.heap.size W w') := Lib.hid (fun W hb a cap l m hl hm => by subst hm; have := rhere_any (HT.out W hb) hl; rw [HC.out, HDS.out, HN.out] at this; exact this)
  have hdl := (HT.out u (Below.refl _ _)).dets.len
  rw [HDS.out, HN.out] at hdl
  obtain ⟨sg, ⟨da, dcap⟩, sr, sb⟩ := hd
  have Q113 : Hid (∀ W, Below u.heap.size u W → W.cell? ⟨tb, 113, none⟩ = some (.slice da n dcap)) := Lib.hid (fun W hb => by
    have := A1.out W hb 113 (.slice da n dcap) (by rw [← HC.out, ← List.getElem?_toArray, (cells_ok (HT.out u (Below.refl _ _))).d, HDS.out, HN.out])
    simpa [Addr.add] using this)
  dsimp only at hdl
  unfold maxLen at hdl
  obtain ⟨hdl1, hdl2⟩ := hdl
  have ROWS : Hid (IntRow u ⟨a1, cap1⟩ S) := Lib.hid (hrow2.below A0.out)
  clear hrow2
  go_wp2_with fail
  refine (Scr.script_any a1 cap1 S false u ROWS.out).mono ?_
  rintro e v0 ⟨⟨fa, fcap⟩, fs, rfl, hfr, hf15, hfo, hb⟩
  have HB0 := Lib.hid hb
  have HFR := Lib.hid hfr
  have HFO := Lib.hid hfo
  obtain ⟨m, hm⟩ : ∃ m, fs.length = m := ⟨_, rfl⟩
  have hfl := hfr.len
  rw [hm] at hf15 hfl ⊢
  have HM := Lib.hid hm
  dsimp only at hfl
  unfold maxLen at hfl
  obtain ⟨hfl1, hfl2⟩ := hfl
  clear hb hfr hfo hm ROWS
  dsimp only [Tab.Sl.val]
  go_wp2_with fail
  go_loopw [7, 8, 9] (fun va vb i wr => ∃ (q k : Nat) (l : List Ch) (aa ab : Option Addr) (ca cb : Nat), q ≤ m ∧ i = .int .i64 q ∧ va = .slice aa k ca ∧ vb = .slice ab k cb ∧ Hid (l.length = k) ∧ RowOf 7 Ch.cells wr ⟨aa, ca⟩ l ∧ RowOf 7 Ch.cells wr ⟨ab, cb⟩ l ∧ Below v0.heap.size v0 wr) (fun _ _ i _ => m - (intOf i).toNat)
  case atStart => exact ⟨0, 0, [], none, none, 0, 0, by omega, rfl, rfl, rfl, Lib.hid rfl, RowOf.nil _, RowOf.nil _, Below.refl _ _⟩
  case round =>
    obtain ⟨q, k, l, aa, ab, ca, cb, hq, rfl, rfl, rfl, HLK, hra, hrb, hbw⟩ := hrel
    have HRA := Lib.hid hra
    have HRB := Lib.hid hrb
    have HBV := Lib.hid hbw
    have HBW : Hid (Below u.heap.size u wr) := Lib.hid (HB0.out.trans (hbw.mono HB0.out.size))
    clear hra hrb hbw
    by_cases hlt : q < m
    · obtain ⟨fr, hfr⟩ : ∃ fr, fs[q]? = some fr := ⟨_, List.getElem?_eq_getElem (by rw [HM.out]; exact hlt)⟩
      obtain ⟨y, hy, hly⟩ := HFR.out.at hfr
      obtain rfl : fa = some y := hy
      obtain ⟨xs, hxl, hxf, _⟩ := HFO.out fr (List.mem_of_getElem? hfr)
      obtain ⟨⟨xa, xc⟩, nx, pu, ask, ln, stry, rs⟩ := fr
      have HXL : Hid (xs.length = nx) := Lib.hid hxl
      have HXF : Hid (FltRow v0 ⟨xa, xc⟩ xs) := Lib.hid hxf
      have hz0 : v0.cell? (y.add (q * 6)) = some (.slice xa nx xc) := by have := hly 0 _ rfl; rwa [Tab.add_zero] at this
      have HZ : Hid (∀ W, Below v0.heap.size v0 W → W.cell? (y.add (q * 6)) = some (.slice xa nx xc)) := Lib.hid (fun W hb => Lvl.at_below hz0 hb)
      clear hly hxl hxf hfr hz0
      go_upto_region 7 with fail
      have hzq : ∀ p : QB.By wr.heap.size wr, p.world.cell? (y.add (q * 6)) = some (.slice xa nx xc) := fun p => HZ.out _ (HBV.out.trans (p.below.mono HBV.out.size))
      refine QT.region wr.heap.size 7 (by kernel_rfl) (by kernel_rfl) ?_
      simp only [List.take_succ_cons, List.take_zero]
      repeat first
          | (refine wpQuiet_load rfl 31 _ rfl ⟨tb, 0, none⟩ rfl c _ (fun w' ⟨p, e⟩ => by rw [e]; exact A1.out _ (HBW.out.trans (p.below.mono HBW.out.size))) Try.underlying31 rfl IA.out ?_
             dsimp only [Act.put]
             simp only [List.setIfInBounds_toArray, List.set_cons_zero, List.set_cons_succ])
          | (quiet_step (fail))
      refine wpQuiet_nil ?_
      intro _ hw'
      obtain ⟨p, rfl⟩ := hw'
      simp only [List.drop_succ_cons, List.drop_zero]
      have hbp := p.below
      clear hzq
      generalize p.world = v4p at hbp ⊢
      go_wp2_with fail
      refine (ST.out few v4p (HBW.out.trans (hbp.mono HBW.out.size)) aa ca l k xa xc xs nx (HRA.out.below hbp) HLK.out ((HXF.out.below HBV.out).below hbp) HXL.out).mono ?_
      rintro e v4 ⟨⟨na, nca⟩, rfl, hrow, hb⟩
      have hbc := hbp.trans (hb.mono hbp.size)
      clear hb hbp
      dsimp only [Tab.Sl.val]
      have HBV2 := Lib.hid (HBV.out.trans (hbc.mono HBV.out.size))
      have HBW2 := Lib.hid (HBW.out.trans (hbc.mono HBW.out.size))
      have HRA2 := Lib.hid hrow
      have HRB2 := Lib.hid (HRB.out.below hbc)
      clear hbc hrow HRA HRB HBV HBW
      go_upto_region 8 with fail
      have hzq : ∀ p : QB.By v4.heap.size v4, p.world.cell? (y.add (q * 6)) = some (.slice xa nx xc) := fun p => HZ.out _ (HBV2.out.trans (p.below.mono HBV2.out.size))
      refine QT.region v4.heap.size 7 (by kernel_rfl) (by kernel_rfl) ?_
      simp only [List.take_succ_cons, List.take_zero]
      repeat first
          | (refine wpQuiet_load rfl 31 _ rfl ⟨tb, 0, none⟩ rfl c _ (fun w' ⟨p, e⟩ => by rw [e]; exact A1.out _ (HBW2.out.trans (p.below.mono HBW2.out.size))) Try.underlying31 rfl IA.out ?_
             dsimp only [Act.put]
             simp only [List.setIfInBounds_toArray, List.set_cons_zero, List.set_cons_succ])
          | (quiet_step (fail))
      refine wpQuiet_nil ?_
      intro _ hw'
      obtain ⟨p, rfl⟩ := hw'
      simp only [List.drop_succ_cons, List.drop_zero]
      have hbp := p.below
      clear hzq
      generalize p.world = v6p at hbp ⊢
      go_wp2_with fail
      refine (RD.out few v6p (HBW2.out.trans (hbp.mono HBW2.out.size)) ab cb l k xa xc xs nx (HRB2.out.below hbp) HLK.out ((HXF.out.below HBV2.out).below hbp) HXL.out).mono ?_
      rintro e v6 ⟨⟨nb, ncb⟩, rfl, hrow, hb⟩
      have hbc := hbp.trans (hb.mono hbp.size)
      clear hb hbp
      dsimp only [Tab.Sl.val]
      have HBV3 := Lib.hid (HBV2.out.trans (hbc.mono HBV2.out.size))
      have HBW3 := Lib.hid (HBW2.out.trans (hbc.mono HBW2.out.size))
      have HRA3 := Lib.hid (HRA2.out.below hbc)
      have HRB3 := Lib.hid hrow
      have HD : Hid ((dts ds l xs).length = n) := Lib.hid (by rw [dts_len, HN.out])
      clear hbc hrow HRA2 HRB2 HBV2 HBW2 HZ HXF HXL HLK
      generalize dts ds l xs = D at HRA3 HRB3 HD
      go_upto_region 9 with fail
      refine QB.region_below v6.heap.size (by kernel_rfl) (by kernel_rfl) ?_
      repeat first
          | (refine wpQuiet_load rfl 31 _ rfl ⟨tb, 0, none⟩ rfl c _ (fun w' ⟨p, e⟩ => by rw [e]; exact A1.out _ (HBW3.out.trans (p.below.mono HBW3.out.size))) Try.underlying31 rfl IA.out ?_
             dsimp only [Act.put]
             simp only [List.setIfInBounds_toArray, List.set_cons_zero, List.set_cons_succ])
          | (quiet_step (first
              | (go_at_call 11; exact QB.call_of (Nat.le_refl _) (fun b => same_any (HRA3.out.below b) (HRB3.out.below b) HD.out))
              | (go_at_call 12; with_reducible exact QB.call_of (Nat.le_refl _) (fun b => HE.out _ (HBW3.out.trans (b.mono HBW3.out.size)) na nca D n (HRA3.out.below b) HD.out))
              | (go_at_call 13; with_reducible exact QB.call_of (Nat.le_refl _) (fun b => RH.out _ (HBW3.out.trans (b.mono HBW3.out.size)) nb ncb D n (HRB3.out.below b) HD.out))))
      refine wpQuiet_nil ?_
      intro _ hw'
      obtain ⟨p, rfl⟩ := hw'
      have HBV4 := Lib.hid (HBV3.out.trans (p.below.mono HBV3.out.size))
      have HRA4 := Lib.hid (HRA3.out.below p.below)
      have HRB4 := Lib.hid (HRB3.out.below p.below)
      generalize p.world = v7 at HBV4 HRA4 HRB4 ⊢
      clear HBV3 HRA3 HRB3 HBW3
      go_wp2
      go_roundw
      case rel => exact ⟨q + 1, n, D, na, nb, nca, ncb, by omega, by go_num, rfl, rfl, HD, HRA4.out, HRB4.out, HBV4.out⟩
      case measure => simp [intOf]; omega
    · obtain rfl : q = m := by omega
      go_wp2_with fail
      refine (Dtc.awake_any _).mono ?_
      rintro e u9 ⟨rfl, b9⟩
      have BF := Lib.hid (A0.out.trans ((HBW.out.trans (b9.mono HBW.out.size)).mono A0.out.size))
      clear b9
      go_wp2
      go_ret
      exact ⟨rfl, BF.out⟩
/-! ### the row's step -/
theorem lifted (os : Os) (started : os.Started) (H : Type) (enc : TypeId × Value → H) :
    ReturnsInHanded {} Try.checked os 4 .any (Rows.detectPlaysSpec.pre6 enc Try.prog Try.f4 Rows.detectPlaysRow.domain false) (Rows.detectPlaysSpec.post enc Try.prog Try.f4 false true false false) := by
  refine returnsInHanded_of_change (C := Try.checked) own started (by kernel_rfl) Try.func4
    (ChangeSpec.witness6 (enc := enc) (C := Try.checked) false ⟨#[], #[.slice none 0 0, .slice none 0 0], []⟩ 8 (by kernel_rfl) (by kernel_rfl) (by kernel_rfl) (by kernel_rfl)) ?_
  intro W base args ds gs before hval0 hW hcnd _
  have hval : ∀ (j : Nat) t v, Try.f4.params[j]? = some t → args[j]? = some v → Value.okWide Try.prog W .any base t v := hval0
  have hW' := hW
  obtain ⟨p, q, hA0, hV, rfl, hfz, hnd⟩ := hW
  have hA : DataW.TrodAll enc Try.prog W 0 (fun _ => true) true Try.f4.params.toList args.toList ds p := hA0
  rw [Try.params4] at hA hval
  obtain ⟨v0, vs0, d0, ds0, p0, q0, hargs, rfl, rfl, h0, r0⟩ := trodAll_cons hA
  obtain ⟨v1, vs1, d1, ds1, p1, q1, rfl, rfl, rfl, h1, r1⟩ := trodAll_cons r0
  obtain ⟨rfl, rfl, rfl⟩ := trodAll_nil r1
  obtain rfl : args = #[v0, v1] := by cases args; simp_all
  obtain ⟨rfl, rfl⟩ := trodVars_none hV
  obtain ⟨a0, len0, cap0, rfl⟩ := okWide_slice Try.underlying40 (hval 0 40 v0 rfl rfl)
  have k0 := h0
  have lt0 : ∀ x ∈ p0, x.block < W.heap.size := by obtain ⟨m, hm⟩ := k0; exact DataW.trod_lt m _ _ _ hm
  obtain ⟨z0, w0⟩ : ∃ zs, IsRow .i64 W a0 len0 cap0 zs := by
    obtain ⟨fuel, hf⟩ := h0
    rcases open_ints Try.underlying40 Try.underlying3 (by kernel_rfl) hf with ⟨hcs, _⟩ | ⟨x, l, c, zs, hcs, _, hl, hm, hz, _, hcell, hwz⟩
    · simp [Value.cells] at hcs
      obtain ⟨rfl, rfl, rfl⟩ := hcs
      exact ⟨[], .inl ⟨rfl, rfl, rfl, rfl⟩⟩
    · simp [Value.cells] at hcs
      obtain ⟨rfl, rfl, rfl⟩ := hcs
      exact ⟨zs, .inr ⟨_, rfl, hl, hm, by simpa using hz, hcell, hwz⟩⟩
  obtain ⟨a1, len1, cap1, rfl⟩ := okWide_slice Try.underlying40 (hval 1 40 v1 rfl rfl)
  have k1 := h1
  have lt1 : ∀ x ∈ p1, x.block < W.heap.size := by obtain ⟨m, hm⟩ := k1; exact DataW.trod_lt m _ _ _ hm
  obtain ⟨z1, w1⟩ : ∃ zs, IsRow .i64 W a1 len1 cap1 zs := by
    obtain ⟨fuel, hf⟩ := h1
    rcases open_ints Try.underlying40 Try.underlying3 (by kernel_rfl) hf with ⟨hcs, _⟩ | ⟨x, l, c, zs, hcs, _, hl, hm, hz, _, hcell, hwz⟩
    · simp [Value.cells] at hcs
      obtain ⟨rfl, rfl, rfl⟩ := hcs
      exact ⟨[], .inl ⟨rfl, rfl, rfl, rfl⟩⟩
    · simp [Value.cells] at hcs
      obtain ⟨rfl, rfl, rfl⟩ := hcs
      exact ⟨zs, .inr ⟨_, rfl, hl, hm, by simpa using hz, hcell, hwz⟩⟩
  clear hA0 hval0
  refine (walk a0 len0 cap0 z0 a1 len1 cap1 z1 W w0 w1).mono fun e W' ⟨he, bel⟩ => ?_
  subst he
  exact ⟨_, rfl, _, _, _, [], _, [], hW', trodAll_mk1 (shut_bool Try.underlying4 _), (trodAll_cons_mk (Below.trod laidOut (by kernel_rfl) (of_decide_eq_true (by kernel_rfl)) k0 bel lt0) (trodAll_cons_mk (Below.trod laidOut (by kernel_rfl) (of_decide_eq_true (by kernel_rfl)) k1 bel lt1) trodAll_mk0)), rfl, bel.frame _, fun h => by cases h⟩
theorem over : Rows.detectPlaysRow.holds Try.pinned (OpenSpec.ofChange Rows.detectPlaysSpec) :=
  OpenClaim.holds_of_wide 4 Try.f4 rfl rfl rfl rfl rfl rfl rfl ⟨rfl, rfl, rfl, rfl, rfl⟩ rfl rfl rfl rfl rfl (by kernel_rfl) Try.func4 (by kernel_rfl)
    (of_decide_eq_true (by kernel_rfl)) (by unfold Func.isWrapper; first | (rw [if_pos (by decide +kernel)]; kernel_rfl) | (rw [if_neg (by decide +kernel)]; exact ⟨rfl, rfl⟩))
    (fun os started H enc _ => lifted os started H enc)
/-- the statement -/
theorem proved : Rows.DetectPlaysSaid :=
  over
#print axioms proved
end detectPlays
end Go.Proofs.Ytbmcendlpeaaeaa
