/- RingOnce returns true at any numbers of a table and any wants: between two crossings each phase begins at most once, and two that conflict are never both other than Red. No condition. -/
import Derived.Test.YtjgpljnbeolapaaRows
import Derived.Test.YtjgpljnbeolapaaPart10
import Derived.Test.YtjgpljnbeolapaaPart11
import Derived.Test.YtjgpljnbeolapaaPart07
import Derived.Test.YtjgpljnbeolapaaPart01
import Derived.Deep.Cut
import Derived.LoopTactic
import Derived.BigQuiet
import Derived.Test.YtjgpljnbeolapaaPart13
import Derived.Test.YtjgpljnbeolapaaPart02
import Derived.WalkKit
import Derived.WalkLawsBesides
import Derived.ProofKit
import Derived.OpenShut
import Derived.ShutString
import Derived.ChangeOld
import Derived.Below
set_option linter.unusedVariables false
set_option linter.unusedSimpArgs false
set_option linter.unusedSectionVars false
set_option maxHeartbeats 8000000
set_option maxRecDepth 100000
namespace Go.Proofs.Ytjgpljnbeolapaa
namespace ringOnce
open Go.ChangeShapes Go.WideShapes Go.ChangeAt Go.RowKit
open Tab Ru QL Rg PlanM
open May (infoP)
open GenT (genTab)
open ChkM (cfAt)
open Clear (phAt)
open PlaceM (where_ spots Spt)
theorem own : ownKnob Try.prog.godebug = none := by kernel_rfl
theorem laidOut : laidOutB Try.prog = true := by kernel_rfl
/-- WHAT THE WALK IS TOLD OF A SLICE OF INTEGERS THAT CAME IN: it is nil; or it leads to a row of 'cap' cells, the numbers 'zs' (the first 'len' are its elements, the rest its spare room), each fitting its kind. -/
def IsRow (k : IntKind) (w : World) (a : Option Addr) (len cap : Nat) (zs : List Int) : Prop :=
  (a = none ∧ len = 0 ∧ cap = 0 ∧ zs = []) ∨
  ∃ x, a = some x ∧ len ≤ cap ∧ cap ≤ maxLen ∧ zs.length = cap ∧ (∀ i, i < zs.length → w.cell? (x.add i) = some (.int k (zs.getD i 0))) ∧ ∀ n ∈ zs, (Lit.int k n).wf = true
theorem isRow_int {w : World} {a : Option Addr} {len cap : Nat} {zs : List Int} (h : IsRow .i64 w a len cap zs) : (zs.take len).length = len ∧ Tab.IntRow w ⟨a, cap⟩ (zs.take len) := by
  rcases h with ⟨rfl, rfl, rfl, rfl⟩ | ⟨x, rfl, h1, h2, h3, h4, _⟩
  · exact ⟨rfl, .inl ⟨rfl, rfl, rfl⟩⟩
  · have hl : (zs.take len).length = len := by rw [List.length_take]; omega
    refine ⟨hl, .inr ⟨x, rfl, by rw [hl]; exact h1, h2, fun i v hv j u hu => ?_⟩⟩
    have hi : i < len := by have := (List.getElem?_eq_some_iff.1 hv).1; omega
    match j, hu with
    | 0, hu =>
      simp at hu
      subst hu
      rw [List.getElem?_take, if_pos hi] at hv
      have := h4 i (by omega)
      rw [List.getD_eq_getElem?_getD, hv] at this
      rw [Nat.mul_one, Tab.add_two, Nat.add_zero]
      exact this
    | j + 1, hu => simp at hu
theorem row_cell {w : World} {a : Option Addr} {cap : Nat} {l : List Int} (h : Tab.IntRow w ⟨a, cap⟩ l) {j : Nat} (hj : j < l.length) : ∃ x, a = some x ∧ w.cell? (x.add j) = some (.int .i64 (l.getD j 0)) := by
  rcases h with ⟨_, _, e⟩ | ⟨x, h1, h2, h3, h4⟩
  · subst e; simp at hj
  · refine ⟨x, h1, ?_⟩
    have := h4 j _ (List.getElem?_eq_getElem hj) 0 _ rfl
    rw [Nat.mul_one, Tab.add_two, Nat.add_zero] at this
    rw [this, List.getD_eq_getElem?_getD, List.getElem?_eq_getElem hj]
    rfl
/-! ### the walk -/
theorem walk (a0 : Option Addr) (len0 cap0 : Nat) (z0 : List Int) (a1 : Option Addr) (len1 cap1 : Nat) (z1 : List Int) (w : World) (w0 : IsRow .i64 w a0 len0 cap0 z0) (w1 : IsRow .i64 w a1 len1 cap1 z1) :
    Calls Try.prog 5 #[.slice a0 len0 cap0, .slice a1 len1 cap1] w fun e w' => e = .returned (.bool true) ∧ Below w.heap.size w w' := by
  obtain ⟨hlen, hrow⟩ := isRow_int w0
  obtain ⟨L, hL⟩ : ∃ L, L = z0.take len0 := ⟨_, rfl⟩
  rw [← hL] at hlen hrow
  clear hL w0
  subst hlen
  obtain ⟨hlen2, hrow2⟩ := isRow_int w1
  obtain ⟨M, hM⟩ : ∃ M, M = z1.take len1 := ⟨_, rfl⟩
  rw [← hM] at hlen2 hrow2
  clear hM w1
  subst hlen2
  have GD : Hid (Rg.Gd (genTab L)) := Lib.hid (Rg.gd_gen L)
  have FEW : Hid ((genTab L).groups.length ≤ 1000) := Lib.hid (GenT.genTab_few L).groups
  have RW2 : Hid (∀ j : Nat, j < M.length → ∃ x, a1 = some x ∧ ∀ W, Below w.heap.size w W → W.cell? (x.add j) = some (I (M.getD j 0))) := Lib.hid (fun j hj => by
    obtain ⟨x, hx, hc⟩ := row_cell hrow2 hj
    exact ⟨x, hx, fun W hb => (hb.cell (World.block_lt_of_cell? w _ hc)).trans hc⟩)
  clear hrow2
  go_enter Try.func5, Try.ntmps5
  go_upto_region 2 with (first | (go_at_call 7; refine (GenT.table_any a0 cap0 L w hrow).mono ?_; rintro e u0 ⟨hd, rfl, ht, hb⟩; have h1 := GenT.cells_cut hd ht.ph ht.cf ht.fl) | (refine wpList_build rfl 57 [(0, .tmp 11)] rfl (pC ((genTab L).cells hd) ⟨0, 0, 0, false⟩ (runsC (List.replicate 8 zRu)) (List.replicate 8 0) 0).toArray _ (by rfl) (builtPl (GenT.cells_cut hd ht.ph ht.cf ht.fl)) ?_))
  have hf := foldPl h1
  generalize List.foldl _ _ ((genTab L).cells hd).zipIdx = Z at hf ⊢
  subst hf
  have hn := (Blk.Bks.nil u0).alloc (pC ((genTab L).cells hd) ⟨0, 0, 0, false⟩ (runsC (List.replicate 8 zRu)) (List.replicate 8 0) 0).toArray 57
  generalize World.alloc u0 _ = u1 at hn ⊢
  generalize u0.heap.size = gx at hn ⊢
  have H1 := Lib.hid hn
  clear hn
  have TB : Hid (∀ W, Below u0.heap.size u0 W → IsTab W hd (genTab L)) := Lib.hid (fun W hb => ht.below hb)
  have BW0 := Lib.hid hb
  have IA : Hid ((Try.prog.info? 32).map (·.size) = some ((genTab L).cells hd).length) := Lib.hid (by rw [h1]; exact PlanW.infoT)
  clear hb ht hrow
  have TK : Hid (∀ gx r rs cnt cross want W, Inv (genTab L) r rs → CI (genTab L) r cnt → (0 ≤ cross ∧ cross ≤ 1000000000) → Blk.Bks u0 [(gx, (pC ((genTab L).cells hd) r (runsC rs) cnt cross).toArray, 57)] W → Calls Try.prog 20 #[.pointer (some ⟨gx, 0, none⟩), .int .i64 want] W fun e w' => ∃ st en r' rs' cnt' cross', e = .returned (.tuple #[I st, I en]) ∧ Blk.Bks u0 [(gx, (pC ((genTab L).cells hd) r' (runsC rs') cnt' cross').toArray, 57)] w' ∧ Inv (genTab L) r' rs' ∧ cnt'.length = 8 ∧ ((cross' = cross ∧ CI (genTab L) r' cnt') ∨ (cross' = cross + 1 ∧ CI (genTab L) r' (List.replicate 8 0)))) := Lib.hid (fun gx r rs cnt cross want W hI hC hx hW => once_tick u0 (genTab L) hd GD.out FEW.out r rs cnt cross want gx W TB.out hI hC hx hW)
  have BE : Hid (∀ W, Below u0.heap.size u0 W → Calls Try.prog 19 #[.agg ((genTab L).cells hd).toArray] W fun e w' => e = .returned (.agg (runsC (begunS (genTab L))).toArray) ∧ Below W.heap.size W w') := Lib.hid (fun W hb => begun_any _ hd W (TB.out W hb))
  have ON : Hid (∀ W, Below u0.heap.size u0 W → Calls Try.prog 21 #[.agg ((genTab L).cells hd).toArray] W fun e w' => e = .returned (.int .i64 (OnS.onS (genTab L) : Nat)) ∧ Below W.heap.size W w') := Lib.hid (fun W hb => OnS.on_any _ hd W (TB.out W hb))
  have CL : Hid (∀ p q : Nat, p < 8 → q < 8 → ∀ W, Below u0.heap.size u0 W → Calls Try.prog 15 #[.agg ((genTab L).cells hd).toArray, .int .i64 p, .int .i64 q] W fun e w' => e = .returned (.bool (clsS (genTab L) p q)) ∧ Below W.heap.size W w') := Lib.hid (fun p q hp hq W hb => Rg.clash_any _ hd p q hp hq W (TB.out W hb))
  have RDN : Hid (∀ r rs, Inv (genTab L) r rs → ∀ p q : Nat, p < 8 → q < 8 → clsS (genTab L) p q = true → (bits .and .i64 (thS rdB rs : Nat) (bits .or .i64 (wrap64 ((2 : Int) ^ p)) (wrap64 ((2 : Int) ^ q))) == 0) = false) := Lib.hid (fun r rs hI p q hp hq hc => once_red GD.out hI hp hq hc)
  have I0 := Lib.hid (inv_start GD.out)
  generalize ((OnS.onS (genTab L) : Nat) : Int) = on at *
  generalize (genTab L).cells hd = tc at *
  generalize genTab L = T at *
  have L1 := Lib.hid h1
  clear TB FEW GD h1
  have L20 : Hid ((runsC (List.replicate 8 zRu)).length = 96) := Lib.hid (by rw [runs_len]; rfl)
  have L30 : Hid ((List.replicate 8 (0 : Int)).length = 8) := Lib.hid rfl
  have S0 : Hid (∀ (r : Rg) (rc : List Value) (cnt : List Int) (cross : Int), rc.length = 96 → cnt.length = 8 → (pC tc r rc cnt cross).toArray.size = 240) := Lib.hid (fun r rc cnt cross h2 h3 => by rw [List.size_toArray]; exact pC_len L1.out h2 h3)
  go_upto_region 3 with (first | (refine wpList_build rfl 34 [(0, .const (I (-1))), (1, .const (I (-1)))] rfl #[I (-1), I (-1)] _ (by rfl) (built34 _ _) ?_) | (refine Ru.store_mid rfl 34 _ _ rfl gx 132 #[I (-1), I (-1)] rfl rfl 57 _ _ H1.out 0 rfl info34 (by rw [S0.out _ _ _ _ L20.out L30.out]; show 132 + 2 ≤ 240; omega) (one34 _ _) (pC_ats L1.out L20.out L30.out _ _) ?_))
  have hput := H1.out.put 0 rfl (pC tc ⟨0, -1, -1, false⟩ (runsC (List.replicate 8 zRu)) (List.replicate 8 0) 0).toArray
  simp only [List.set_cons_succ, List.set_cons_zero] at hput
  generalize World.setRow u1 gx _ = u2 at hput ⊢
  have H2 := Lib.hid hput
  clear hput
  clear H1
  go_wp2_with (refine Row.wpList_load_g 32 _ rfl (by first | rfl | (go_simp; done) | fail) ⟨gx, 0, none⟩ rfl tc _ ((pb L1.out L20.out L30.out H2.out 0 rfl).lt) Try.underlying32 rfl IA.out ?_)
  refine (BE.out _ H2.out.bel).mono ?_
  rintro e u3 ⟨rfl, b3⟩
  have H3 := Lib.hid (H2.out.step b3)
  clear b3 H2
  have LBG : Hid ((runsC (begunS T)).length = 96) := Lib.hid (by rw [runs_len, begun_len])
  go_upto_region 4 with (refine Ru.store_mid rfl 46 _ _ rfl gx 135 (runsC (begunS T)).toArray rfl rfl 57 _ _ H3.out 0 rfl (by rw [List.size_toArray, LBG.out]; exact infoRs) (by rw [S0.out _ _ _ _ L20.out L30.out, List.size_toArray, LBG.out]; omega) (one_runs _) (pC_runs L1.out L20.out L30.out LBG.out) ?_)
  have hput := H3.out.put 0 rfl (pC tc ⟨0, -1, -1, false⟩ (runsC (begunS T)) (List.replicate 8 0) 0).toArray
  simp only [List.set_cons_succ, List.set_cons_zero] at hput
  generalize World.setRow u3 gx _ = u4 at hput ⊢
  have H4 := Lib.hid hput
  clear hput
  clear H3 BE L20
  by_cases hl : 120 < M.length
  · have hl' : (120 : Int) < (M.length : Int) := by omega
    go_wp2_with fail
    refine (awake_any _).mono ?_
    rintro e w9 ⟨rfl, b9⟩
    go_wp2
    go_ret
    exact ⟨rfl, BW0.out.trans ((H4.out.step b9).bel.mono BW0.out.size)⟩
  have hl' : (M.length : Int) ≤ 120 := by omega
  have hl2 : ¬ (120 : Int) < (M.length : Int) := by omega
  have e1 : IntKind.i64.wrap (10 * (M.length : Int)) = 10 * (M.length : Int) := by rw [IntKind.wrap_i64]; omega
  clear hl
  go_wp2_with fail
  go_loopw [6] (fun i wr => ∃ (q : Nat) (r : Rg) (rs : List Ru) (cnt : List Int) (cross : Int), q ≤ 10 * M.length ∧ i = .int .i64 q ∧ Inv T r rs ∧ CI T r cnt ∧ (0 ≤ cross ∧ cross ≤ q) ∧ Blk.Bks u0 [(gx, (pC tc r (runsC rs) cnt cross).toArray, 57)] wr) (fun i _ => 10 * M.length - (intOf i).toNat)
  case atStart => exact ⟨0, _, _, _, 0, by omega, rfl, I0.out, ci_zero _ _, by omega, H4.out⟩
  case round =>
    obtain ⟨q, r, rs, cnt, cross, hq, rfl, hI, hC, hx, hB⟩ := hrel
    have HB := Lib.hid hB
    have HI := Lib.hid hI
    have HC := Lib.hid hC
    have L2 : Hid ((runsC rs).length = 96) := Lib.hid (by rw [runs_len, hI.len])
    have L3 : Hid (cnt.length = 8) := Lib.hid hC.len
    clear hI hC hB H4
    by_cases hlt : q < 10 * M.length
    · have hlq : (q : Int) < 10 * (M.length : Int) := by omega
      obtain ⟨j, hj⟩ : ∃ j : Nat, (q : Int) / 10 = (j : Int) := ⟨q / 10, by omega⟩
      have hjl : j < M.length := by omega
      have hjt : (q : Int).tdiv 10 = (j : Int) := by rw [Int.tdiv_eq_ediv_of_nonneg (by omega)]; exact hj
      have hjk : (j : Int) < (M.length : Int) := by omega
      have ej : IntKind.i64.wrap (j : Int) = (j : Int) := by rw [IntKind.wrap_i64]; omega
      obtain ⟨x, hx1, hx2⟩ := RW2.out j hjl
      obtain rfl : a1 = some x := hx1
      have BV := Lib.hid (BW0.out.trans (HB.out.bel.mono BW0.out.size))
      have hz : ∀ y : QB.By wr.heap.size wr, y.world.cell? (x.add j) = some (I (M.getD j 0)) := fun y => hx2 _ (BV.out.trans (y.below.mono BV.out.size))
      have xc : wr.cell? ⟨gx, 239, none⟩ = some (I cross) := (pb L1.out L2.out L3.out HB.out 0 rfl).cx
      generalize M.getD j 0 = mj at hz
      clear hx2
      go_upto_region 10 with fail
      have LTQ : Hid (∀ W, Below wr.heap.size wr W → Lies W ⟨gx, 0, none⟩ tc) := Lib.hid (fun W hb => (pb L1.out L2.out L3.out (HB.out.step hb) 0 rfl).lt)
      have HV := Lib.hid HB.out.bel
      clear xc
      refine QT.region wr.heap.size 12 (by kernel_rfl) (by kernel_rfl) ?_
      simp only [List.take_succ_cons, List.take_zero]
      repeat first
        | (refine wpQuiet_load rfl 32 _ rfl ⟨gx, 0, none⟩ rfl tc _ (fun w' ⟨pw, e⟩ => by rw [e]; exact LTQ.out _ pw.below) Try.underlying32 rfl IA.out ?_
           dsimp only [Act.put]
           simp only [List.setIfInBounds_toArray, List.set_cons_zero, List.set_cons_succ])
        | (quiet_step (first | (go_at_call 21; with_reducible exact QB.call_of (Nat.le_refl _) (fun b => ON.out _ (HV.out.trans (b.mono HV.out.size))))))
      refine wpQuiet_nil ?_
      intro _ hw'
      obtain ⟨py, rfl⟩ := hw'
      have H6 := Lib.hid (HB.out.by py)
      clear hz LTQ HV hjt hj hjk ej BV
      generalize py.world = w6 at H6 ⊢
      simp only [List.drop_succ_cons, List.drop_zero]
      go_wp2_with fail
      refine (TK.out gx r rs cnt cross _ w6 HI.out HC.out (by omega) H6.out).mono ?_
      rintro e w7 ⟨st, en, r', rs', cnt', cross', rfl, hB, hI, hc8, hcase⟩
      have H7 := Lib.hid hB
      have HI2 := Lib.hid hI
      have M2 : Hid ((runsC rs').length = 96) := Lib.hid (by rw [runs_len, hI.len])
      have M8 : Hid (rs'.length = 8) := Lib.hid hI.len
      have M3 : Hid (cnt'.length = 8) := Lib.hid hc8
      have BFA := Lib.hid (RDN.out r' rs' hI)
      clear hB hI hc8 HB H6 HI HC L2 L3 RDN
      rcases hcase with ⟨rfl, hC⟩ | ⟨rfl, hC⟩
      · have HC3 := Lib.hid hC
        have xc : w7.cell? ⟨gx, 239, none⟩ = some (I cross') := (pb L1.out M2.out M3.out H7.out 0 rfl).cx
        clear hC
        go_upto_region 13 with fail
        clear xc
        have KB2 : Hid (∀ W, Below w7.heap.size w7 W → PB W gx tc r' (runsC rs') cnt' cross') := Lib.hid (fun W hb => pb L1.out M2.out M3.out (H7.out.step hb) 0 rfl)
        have CM : Hid (∀ p : Nat, p < 8 → 0 ≤ (cnt').getD p 0 ∧ (cnt').getD p 0 ≤ 1) := Lib.hid (fun p hp => HC3.out.small hp)
        have CAT : Hid (∀ p : Nat, p < 8 → (cnt')[p]? = some ((cnt').getD p 0)) := Lib.hid (fun p hp => by rw [List.getD_eq_getElem?_getD, List.getElem?_eq_getElem (show p < (cnt').length by rw [M3.out]; exact hp)]; rfl)
        have HBU := Lib.hid H7.out.bel
        go_wp2_with fail
        go_loopw [8] (fun k wr => ∃ m : Nat, m ≤ 8 ∧ k = .int .i64 m ∧ Below w7.heap.size w7 wr) (fun k _ => 8 - (intOf k).toNat)
        case atStart => exact ⟨0, by omega, rfl, Below.refl _ _⟩
        case round =>
          obtain ⟨m, hm, rfl, hbk⟩ := hrel
          have BK := Lib.hid hbk
          clear hbk
          by_cases hmt : m < 8
          · have hm8 : (m : Int) < 8 := by omega
            obtain ⟨cm0, cm1⟩ := CM.out m hmt
            have kx : wr.cell? ⟨gx, 231 + m, none⟩ = some (I ((cnt').getD m 0)) := (KB2.out _ BK.out).ct m _ (CAT.out m hmt)
            generalize (cnt').getD m 0 = k0 at cm0 cm1 kx
            have dk : decide (k0 > 1) = false := decide_eq_false (by omega)
            have dk2 : decide (1 < k0) = false := decide_eq_false (by omega)
            have dk3 : ¬ 1 < k0 := by omega
            go_upto_region 18 with fail
            clear kx dk dk2 dk3 cm0 cm1
            go_wp2_with fail
            go_loopw [9] (fun k wy => ∃ n : Nat, n ≤ m ∧ k = .int .i64 n ∧ Below wr.heap.size wr wy) (fun k _ => m - (intOf k).toNat)
            case atStart => exact ⟨0, by omega, rfl, Below.refl _ _⟩
            case round =>
              obtain ⟨n, hn, rfl, hbn⟩ := hrel
              have BN := Lib.hid (BK.out.trans (hbn.mono BK.out.size))
              have BNR := Lib.hid hbn
              clear hbn
              by_cases hnt : n < m
              · have hn8 : (n : Int) < (m : Int) := by omega
                have hn9 : (n : Int) < 8 := by omega
                go_wp2_with (refine Row.wpList_load_g 32 _ rfl (by first | rfl | (go_simp; done) | fail) ⟨gx, 0, none⟩ rfl tc _ ((KB2.out _ BN.out).lt) Try.underlying32 rfl IA.out ?_)
                refine (CL.out m n hmt (by omega) _ (HBU.out.trans (BN.out.mono HBU.out.size))).mono ?_
                rintro e w10 ⟨rfl, b10⟩
                have BM := Lib.hid (BN.out.trans (b10.mono BN.out.size))
                have BMR := Lib.hid (BNR.out.trans (b10.mono BNR.out.size))
                clear b10
                cases hcs : clsS T m n
                · go_wp2
                  go_roundw
                  case rel => exact ⟨n + 1, by omega, by go_num, BMR.out⟩
                  case measure => simp [intOf]; omega
                · have BF := BFA.out m n hmt (by omega) hcs
                  clear hcs
                  go_wp2_with (refine Row.wpList_load_g 46 _ rfl (by first | rfl | (go_simp; done) | fail) ⟨gx, 135, none⟩ rfl (runsC rs') _ ((KB2.out _ BM.out).ln) Try.underlying46 rfl (by rw [M2.out]; exact infoRs) ?_)
                  refine (reds_any rs' M8.out _).mono ?_
                  rintro e w11 ⟨rfl, b11⟩
                  have BMS := Lib.hid (BMR.out.trans (b11.mono BMR.out.size))
                  clear b11 BN BM BNR BMR
                  generalize ((thS rdB rs' : Nat) : Int) = rd at BF ⊢
                  go_wp2_with fail
                  go_roundw
                  case rel => exact ⟨n + 1, by omega, by go_num, BMS.out⟩
                  case measure => simp [intOf]; omega
              · have hge : ¬ (n : Int) < (m : Int) := by omega
                go_wp2_with fail
                go_roundw
                case rel => exact ⟨m + 1, by omega, by go_num, BN.out⟩
                case measure => simp [intOf]; omega
          · obtain rfl : m = 8 := by omega
            have H9 := Lib.hid (H7.out.step BK.out)
            clear H7 KB2 BK
            go_wp2_with fail
            go_roundw
            case rel => exact ⟨q + 1, _, _, _, _, by omega, by go_num, HI2.out, HC3.out, by omega, H9.out⟩
            case measure => simp [intOf]; omega
      · have HC3 := Lib.hid hC
        have xc : w7.cell? ⟨gx, 239, none⟩ = some (I (cross + 1)) := (pb L1.out M2.out M3.out H7.out 0 rfl).cx
        have d1 : (cross + 1 != cross) = true := bne_iff_ne.2 (by omega)
        have d2 : (cross + 1 == cross) = false := beq_eq_false_iff_ne.2 (by omega)
        clear hC
        go_upto_region 12 with fail
        go_upto_region 13 with (first | (refine wpList_build rfl 27 [] rfl ((List.replicate 8 (0 : Int)).map I).toArray _ (by rfl) (built27) ?_) | (refine Ru.store_mid rfl 27 _ _ rfl gx 231 ((List.replicate 8 (0 : Int)).map I).toArray rfl rfl 57 _ _ H7.out 0 rfl info27 (by rw [S0.out _ _ _ _ M2.out M3.out]; show 231 + 8 ≤ 240; omega) (one_ints _) (pC_cnts L1.out M2.out M3.out L30.out) ?_))
        have hput := H7.out.put 0 rfl (pC tc r' (runsC rs') (List.replicate 8 0) (cross + 1)).toArray
        simp only [List.set_cons_succ, List.set_cons_zero] at hput
        generalize World.setRow w7 gx _ = w8 at hput ⊢
        have H8 := Lib.hid hput
        clear hput
        clear H7
        clear xc d1 d2
        have KB2 : Hid (∀ W, Below w8.heap.size w8 W → PB W gx tc r' (runsC rs') (List.replicate 8 (0 : Int)) (cross + 1)) := Lib.hid (fun W hb => pb L1.out M2.out L30.out (H8.out.step hb) 0 rfl)
        have CM : Hid (∀ p : Nat, p < 8 → 0 ≤ ((List.replicate 8 (0 : Int))).getD p 0 ∧ ((List.replicate 8 (0 : Int))).getD p 0 ≤ 1) := Lib.hid (fun p hp => HC3.out.small hp)
        have CAT : Hid (∀ p : Nat, p < 8 → ((List.replicate 8 (0 : Int)))[p]? = some (((List.replicate 8 (0 : Int))).getD p 0)) := Lib.hid (fun p hp => by rw [List.getD_eq_getElem?_getD, List.getElem?_eq_getElem (show p < ((List.replicate 8 (0 : Int))).length by rw [L30.out]; exact hp)]; rfl)
        have HBU := Lib.hid H8.out.bel
        go_wp2_with fail
        go_loopw [8] (fun k wr => ∃ m : Nat, m ≤ 8 ∧ k = .int .i64 m ∧ Below w8.heap.size w8 wr) (fun k _ => 8 - (intOf k).toNat)
        case atStart => exact ⟨0, by omega, rfl, Below.refl _ _⟩
        case round =>
          obtain ⟨m, hm, rfl, hbk⟩ := hrel
          have BK := Lib.hid hbk
          clear hbk
          by_cases hmt : m < 8
          · have hm8 : (m : Int) < 8 := by omega
            obtain ⟨cm0, cm1⟩ := CM.out m hmt
            have kx : wr.cell? ⟨gx, 231 + m, none⟩ = some (I (((List.replicate 8 (0 : Int))).getD m 0)) := (KB2.out _ BK.out).ct m _ (CAT.out m hmt)
            generalize ((List.replicate 8 (0 : Int))).getD m 0 = k0 at cm0 cm1 kx
            have dk : decide (k0 > 1) = false := decide_eq_false (by omega)
            have dk2 : decide (1 < k0) = false := decide_eq_false (by omega)
            have dk3 : ¬ 1 < k0 := by omega
            go_upto_region 18 with fail
            clear kx dk dk2 dk3 cm0 cm1
            go_wp2_with fail
            go_loopw [9] (fun k wy => ∃ n : Nat, n ≤ m ∧ k = .int .i64 n ∧ Below wr.heap.size wr wy) (fun k _ => m - (intOf k).toNat)
            case atStart => exact ⟨0, by omega, rfl, Below.refl _ _⟩
            case round =>
              obtain ⟨n, hn, rfl, hbn⟩ := hrel
              have BN := Lib.hid (BK.out.trans (hbn.mono BK.out.size))
              have BNR := Lib.hid hbn
              clear hbn
              by_cases hnt : n < m
              · have hn8 : (n : Int) < (m : Int) := by omega
                have hn9 : (n : Int) < 8 := by omega
                go_wp2_with (refine Row.wpList_load_g 32 _ rfl (by first | rfl | (go_simp; done) | fail) ⟨gx, 0, none⟩ rfl tc _ ((KB2.out _ BN.out).lt) Try.underlying32 rfl IA.out ?_)
                refine (CL.out m n hmt (by omega) _ (HBU.out.trans (BN.out.mono HBU.out.size))).mono ?_
                rintro e w10 ⟨rfl, b10⟩
                have BM := Lib.hid (BN.out.trans (b10.mono BN.out.size))
                have BMR := Lib.hid (BNR.out.trans (b10.mono BNR.out.size))
                clear b10
                cases hcs : clsS T m n
                · go_wp2
                  go_roundw
                  case rel => exact ⟨n + 1, by omega, by go_num, BMR.out⟩
                  case measure => simp [intOf]; omega
                · have BF := BFA.out m n hmt (by omega) hcs
                  clear hcs
                  go_wp2_with (refine Row.wpList_load_g 46 _ rfl (by first | rfl | (go_simp; done) | fail) ⟨gx, 135, none⟩ rfl (runsC rs') _ ((KB2.out _ BM.out).ln) Try.underlying46 rfl (by rw [M2.out]; exact infoRs) ?_)
                  refine (reds_any rs' M8.out _).mono ?_
                  rintro e w11 ⟨rfl, b11⟩
                  have BMS := Lib.hid (BMR.out.trans (b11.mono BMR.out.size))
                  clear b11 BN BM BNR BMR
                  generalize ((thS rdB rs' : Nat) : Int) = rd at BF ⊢
                  go_wp2_with fail
                  go_roundw
                  case rel => exact ⟨n + 1, by omega, by go_num, BMS.out⟩
                  case measure => simp [intOf]; omega
              · have hge : ¬ (n : Int) < (m : Int) := by omega
                go_wp2_with fail
                go_roundw
                case rel => exact ⟨m + 1, by omega, by go_num, BN.out⟩
                case measure => simp [intOf]; omega
          · obtain rfl : m = 8 := by omega
            have H9 := Lib.hid (H8.out.step BK.out)
            clear H8 KB2 BK
            go_wp2_with fail
            go_roundw
            case rel => exact ⟨q + 1, _, _, _, _, by omega, by go_num, HI2.out, HC3.out, by omega, H9.out⟩
            case measure => simp [intOf]; omega
    · have hge : ¬ (q : Int) < 10 * (M.length : Int) := by omega
      go_wp2_with fail
      refine (awake_any _).mono ?_
      rintro e w9 ⟨rfl, b9⟩
      go_wp2
      go_ret
      exact ⟨rfl, BW0.out.trans ((HB.out.step b9).bel.mono BW0.out.size)⟩
/-! ### the row's step -/
theorem lifted (os : Os) (started : os.Started) (H : Type) (enc : TypeId × Value → H) :
    ReturnsInHanded {} Try.checked os 5 .any (Rows.ringOnceSpec.pre6 enc Try.prog Try.f5 Rows.ringOnceRow.domain false) (Rows.ringOnceSpec.post enc Try.prog Try.f5 false true false false) := by
  refine returnsInHanded_of_change (C := Try.checked) own started (by kernel_rfl) Try.func5
    (ChangeSpec.witness6 (enc := enc) (C := Try.checked) false ⟨#[], #[.slice none 0 0, .slice none 0 0], []⟩ 8 (by kernel_rfl) (by kernel_rfl) (by kernel_rfl) (by kernel_rfl)) ?_
  intro W base args ds gs before hval0 hW hcnd _
  have hval : ∀ (j : Nat) t v, Try.f5.params[j]? = some t → args[j]? = some v → Value.okWide Try.prog W .any base t v := hval0
  have hW' := hW
  obtain ⟨p, q, hA0, hV, rfl, hfz, hnd⟩ := hW
  have hA : DataW.TrodAll enc Try.prog W 0 (fun _ => true) true Try.f5.params.toList args.toList ds p := hA0
  rw [Try.params5] at hA hval
  obtain ⟨v0, vs0, d0, ds0, p0, q0, hargs, rfl, rfl, h0, r0⟩ := trodAll_cons hA
  obtain ⟨v1, vs1, d1, ds1, p1, q1, rfl, rfl, rfl, h1, r1⟩ := trodAll_cons r0
  obtain ⟨rfl, rfl, rfl⟩ := trodAll_nil r1
  obtain rfl : args = #[v0, v1] := by cases args; simp_all
  obtain ⟨rfl, rfl⟩ := trodVars_none hV
  obtain ⟨a0, len0, cap0, rfl⟩ := okWide_slice Try.underlying22 (hval 0 22 v0 rfl rfl)
  have k0 := h0
  have lt0 : ∀ x ∈ p0, x.block < W.heap.size := by obtain ⟨m, hm⟩ := k0; exact DataW.trod_lt m _ _ _ hm
  obtain ⟨z0, w0⟩ : ∃ zs, IsRow .i64 W a0 len0 cap0 zs := by
    obtain ⟨fuel, hf⟩ := h0
    rcases open_ints Try.underlying22 Try.underlying3 (by kernel_rfl) hf with ⟨hcs, _⟩ | ⟨x, l, c, zs, hcs, _, hl, hm, hz, _, hcell, hwz⟩
    · simp [Value.cells] at hcs
      obtain ⟨rfl, rfl, rfl⟩ := hcs
      exact ⟨[], .inl ⟨rfl, rfl, rfl, rfl⟩⟩
    · simp [Value.cells] at hcs
      obtain ⟨rfl, rfl, rfl⟩ := hcs
      exact ⟨zs, .inr ⟨_, rfl, hl, hm, by simpa using hz, hcell, hwz⟩⟩
  obtain ⟨a1, len1, cap1, rfl⟩ := okWide_slice Try.underlying22 (hval 1 22 v1 rfl rfl)
  have k1 := h1
  have lt1 : ∀ x ∈ p1, x.block < W.heap.size := by obtain ⟨m, hm⟩ := k1; exact DataW.trod_lt m _ _ _ hm
  obtain ⟨z1, w1⟩ : ∃ zs, IsRow .i64 W a1 len1 cap1 zs := by
    obtain ⟨fuel, hf⟩ := h1
    rcases open_ints Try.underlying22 Try.underlying3 (by kernel_rfl) hf with ⟨hcs, _⟩ | ⟨x, l, c, zs, hcs, _, hl, hm, hz, _, hcell, hwz⟩
    · simp [Value.cells] at hcs
      obtain ⟨rfl, rfl, rfl⟩ := hcs
      exact ⟨[], .inl ⟨rfl, rfl, rfl, rfl⟩⟩
    · simp [Value.cells] at hcs
      obtain ⟨rfl, rfl, rfl⟩ := hcs
      exact ⟨zs, .inr ⟨_, rfl, hl, hm, by simpa using hz, hcell, hwz⟩⟩
  clear hA0 hval0
  refine (walk a0 len0 cap0 z0 a1 len1 cap1 z1 W w0 w1).mono fun e W' ⟨he, bel⟩ => ?_
  subst he
  exact ⟨_, rfl, _, _, _, [], _, [], hW', trodAll_mk1 (shut_bool Try.underlying4 _), (trodAll_cons_mk (Below.trod laidOut (by kernel_rfl) (of_decide_eq_true (by kernel_rfl)) k0 bel lt0) (trodAll_cons_mk (Below.trod laidOut (by kernel_rfl) (of_decide_eq_true (by kernel_rfl)) k1 bel lt1) trodAll_mk0)), rfl, bel.frame _, fun h => by cases h⟩
theorem over : Rows.ringOnceRow.holds Try.pinned (OpenSpec.ofChange Rows.ringOnceSpec) :=
  OpenClaim.holds_of_wide 5 Try.f5 rfl rfl rfl rfl rfl rfl rfl ⟨rfl, rfl, rfl, rfl, rfl⟩ rfl rfl rfl rfl rfl (by kernel_rfl) Try.func5 (by kernel_rfl)
    (of_decide_eq_true (by kernel_rfl)) (by unfold Func.isWrapper; first | (rw [if_pos (by decide +kernel)]; kernel_rfl) | (rw [if_neg (by decide +kernel)]; exact ⟨rfl, rfl⟩))
    (fun os started H enc _ => lifted os started H enc)
/-- the statement -/
theorem proved : Rows.RingOnceSaid :=
  over
#print axioms proved
end ringOnce
end Go.Proofs.Ytjgpljnbeolapaa
