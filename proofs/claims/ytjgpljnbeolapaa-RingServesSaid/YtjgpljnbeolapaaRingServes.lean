/- RingServes returns true at any numbers of a table, any phase and any others: who wants all the time is green again and again, each time within Free. No condition. -/
import Derived.Test.YtjgpljnbeolapaaRows
import Derived.Test.YtjgpljnbeolapaaPart10
import Derived.Test.YtjgpljnbeolapaaPart11
import Derived.Test.YtjgpljnbeolapaaPart07
import Derived.Test.YtjgpljnbeolapaaPart01
import Derived.Deep.Cut
import Derived.LoopTactic
import Derived.BigQuiet
import Derived.Test.YtjgpljnbeolapaaPart13
import Derived.Test.YtjgpljnbeolapaaPart02
import Derived.Test.YtjgpljnbeolapaaPart06
import Derived.WalkKit
import Derived.WalkLawsBesides
import Derived.ProofKit
import Derived.OpenShut
import Derived.ShutString
import Derived.ChangeOld
import Derived.Below
set_option linter.unusedVariables false
set_option linter.unusedSimpArgs false
set_option linter.unusedSectionVars false
set_option maxHeartbeats 8000000
set_option maxRecDepth 100000
namespace Go.Proofs.Ytjgpljnbeolapaa
namespace ringServes
open Go.ChangeShapes Go.WideShapes Go.ChangeAt Go.RowKit
open Tab Ru QL Rg PlanM
open May (infoP)
open GenT (genTab)
open ChkM (cfAt)
open Clear (phAt)
open PlaceM (where_ spots Spt)
theorem own : ownKnob Try.prog.godebug = none := by kernel_rfl
theorem laidOut : laidOutB Try.prog = true := by kernel_rfl
/-- WHAT THE WALK IS TOLD OF A SLICE OF INTEGERS THAT CAME IN: it is nil; or it leads to a row of 'cap' cells, the numbers 'zs' (the first 'len' are its elements, the rest its spare room), each fitting its kind. -/
def IsRow (k : IntKind) (w : World) (a : Option Addr) (len cap : Nat) (zs : List Int) : Prop :=
  (a = none ∧ len = 0 ∧ cap = 0 ∧ zs = []) ∨
  ∃ x, a = some x ∧ len ≤ cap ∧ cap ≤ maxLen ∧ zs.length = cap ∧ (∀ i, i < zs.length → w.cell? (x.add i) = some (.int k (zs.getD i 0))) ∧ ∀ n ∈ zs, (Lit.int k n).wf = true
theorem isRow_int {w : World} {a : Option Addr} {len cap : Nat} {zs : List Int} (h : IsRow .i64 w a len cap zs) : (zs.take len).length = len ∧ Tab.IntRow w ⟨a, cap⟩ (zs.take len) := by
  rcases h with ⟨rfl, rfl, rfl, rfl⟩ | ⟨x, rfl, h1, h2, h3, h4, _⟩
  · exact ⟨rfl, .inl ⟨rfl, rfl, rfl⟩⟩
  · have hl : (zs.take len).length = len := by rw [List.length_take]; omega
    refine ⟨hl, .inr ⟨x, rfl, by rw [hl]; exact h1, h2, fun i v hv j u hu => ?_⟩⟩
    have hi : i < len := by have := (List.getElem?_eq_some_iff.1 hv).1; omega
    match j, hu with
    | 0, hu =>
      simp at hu
      subst hu
      rw [List.getElem?_take, if_pos hi] at hv
      have := h4 i (by omega)
      rw [List.getD_eq_getElem?_getD, hv] at this
      rw [Nat.mul_one, Tab.add_two, Nat.add_zero]
      exact this
    | j + 1, hu => simp at hu
theorem row_cell {w : World} {a : Option Addr} {cap : Nat} {l : List Int} (h : Tab.IntRow w ⟨a, cap⟩ l) {j : Nat} (hj : j < l.length) : ∃ x, a = some x ∧ w.cell? (x.add j) = some (.int .i64 (l.getD j 0)) := by
  rcases h with ⟨_, _, e⟩ | ⟨x, h1, h2, h3, h4⟩
  · subst e; simp at hj
  · refine ⟨x, h1, ?_⟩
    have := h4 j _ (List.getElem?_eq_getElem hj) 0 _ rfl
    rw [Nat.mul_one, Tab.add_two, Nat.add_zero] at this
    rw [this, List.getD_eq_getElem?_getD, List.getElem?_eq_getElem hj]
    rfl
theorem row_max {w : World} {a : Option Addr} {cap : Nat} {l : List Int} (h : Tab.IntRow w ⟨a, cap⟩ l) : l.length ≤ maxLen := by
  rcases h with ⟨_, _, e⟩ | ⟨x, h1, h2, h3, h4⟩
  · subst e; exact Nat.zero_le _
  · exact Nat.le_trans h2 h3
/-! ### the walk -/
theorem walk (a0 : Option Addr) (len0 cap0 : Nat) (z0 : List Int) (a1 : Int) (a2 : Option Addr) (len2 cap2 : Nat) (z2 : List Int) (w : World) (w0 : IsRow .i64 w a0 len0 cap0 z0) (w1 : (Lit.int .i64 a1).wf = true) (w2 : IsRow .i64 w a2 len2 cap2 z2) :
    Calls Try.prog 6 #[.slice a0 len0 cap0, .int .i64 a1, .slice a2 len2 cap2] w fun e w' => e = .returned (.bool true) ∧ Below w.heap.size w w' := by
  obtain ⟨hlen, hrow⟩ := isRow_int w0
  obtain ⟨L, hL⟩ : ∃ L, L = z0.take len0 := ⟨_, rfl⟩
  rw [← hL] at hlen hrow
  clear hL w0
  subst hlen
  obtain ⟨hlen2, hrow2⟩ := isRow_int w2
  obtain ⟨M, hM⟩ : ∃ M, M = z2.take len2 := ⟨_, rfl⟩
  rw [← hM] at hlen2 hrow2
  clear hM w2
  subst hlen2
  have hML : M.length ≤ maxLen := row_max hrow2
  have hMX : (M.length : Int) ≤ 9223372036854775807 := by unfold maxLen at hML; omega
  clear hML
  have GX : Hid (Rg.Gx (genTab L)) := Lib.hid (Rg.gx_gen L)
  have FEWP : Hid (PlaceM.Few (genTab L)) := Lib.hid (GenT.genTab_few L)
  have RW2 : Hid (∀ j : Nat, j < M.length → ∃ x, a2 = some x ∧ ∀ W, Below w.heap.size w W → W.cell? (x.add j) = some (I (M.getD j 0))) := Lib.hid (fun j hj => by
    obtain ⟨x, hx, hc⟩ := row_cell hrow2 hj
    exact ⟨x, hx, fun W hb => (hb.cell (World.block_lt_of_cell? w _ hc)).trans hc⟩)
  clear hrow2
  go_enter Try.func6, Try.ntmps6
  go_upto_region 2 with (first | (go_at_call 7; refine (GenT.table_any a0 cap0 L w hrow).mono ?_; rintro e u0 ⟨hd, rfl, ht, hb⟩; have h1 := GenT.cells_cut hd ht.ph ht.cf ht.fl))
  have hf := foldPl h1
  generalize List.foldl _ _ ((genTab L).cells hd).zipIdx = Z at hf ⊢
  subst hf
  have hn := (Blk.Bks.nil u0).alloc (pC ((genTab L).cells hd) ⟨0, 0, 0, false⟩ (runsC (List.replicate 8 zRu)) (List.replicate 8 0) 0).toArray 57
  generalize World.alloc u0 _ = u1 at hn ⊢
  generalize u0.heap.size = gx at hn ⊢
  have H1 := Lib.hid hn
  clear hn
  have TB : Hid (∀ W, Below u0.heap.size u0 W → IsTab W hd (genTab L)) := Lib.hid (fun W hb => ht.below hb)
  have BW0 := Lib.hid hb
  have IA : Hid ((Try.prog.info? 32).map (·.size) = some ((genTab L).cells hd).length) := Lib.hid (by rw [h1]; exact PlanW.infoT)
  clear hb ht hrow
  have TK : Hid (∀ (gx gk kr ki : Nat) (q F : Int), gk < (genTab L).groups.length → kr < 2 → (PlanM.ringAt (genTab L) gk kr)[ki]? = some q → F = BdM.tot (FreeS.upL (genTab L) (genTab L).groups.length) + PassS.passS (genTab L) gk → ∀ (n : Nat) r rs cnt cross since want W, n ≤ 2000 → Sv (genTab L) gk kr ki q F n r rs cnt cross since → SetM.has want q = true → Blk.Bks u0 [(gx, (pC ((genTab L).cells hd) r (runsC rs) cnt cross).toArray, 57)] W → Calls Try.prog 20 #[.pointer (some ⟨gx, 0, none⟩), .int .i64 want] W fun e w' => ∃ st en r' rs' cnt' cross', e = .returned (.tuple #[I st, I en]) ∧ Blk.Bks u0 [(gx, (pC ((genTab L).cells hd) r' (runsC rs') cnt' cross').toArray, 57)] w' ∧ Sv (genTab L) gk kr ki q F (n + 1) r' rs' cnt' cross' (if (ruAt rs' q).co = 1 then 0 else since + 1) ∧ (if (ruAt rs' q).co = 1 then 0 else since + 1) ≤ F) := Lib.hid (fun gx gk kr ki q F h1 h2 h3 h4 n r rs cnt cross since want W hn hS hw hW => sv_tick GX.out h1 h2 h3 h4 u0 hd FEWP.out.groups hn want gx W TB.out hS hw hW)
  have BE : Hid (∀ W, Below u0.heap.size u0 W → Calls Try.prog 19 #[.agg ((genTab L).cells hd).toArray] W fun e w' => e = .returned (.agg (runsC (begunS (genTab L))).toArray) ∧ Below W.heap.size W w') := Lib.hid (fun W hb => begun_any _ hd W (TB.out W hb))
  have ON : Hid (∀ W, Below u0.heap.size u0 W → Calls Try.prog 21 #[.agg ((genTab L).cells hd).toArray] W fun e w' => e = .returned (.int .i64 (OnS.onS (genTab L) : Nat)) ∧ Below W.heap.size W w') := Lib.hid (fun W hb => OnS.on_any _ hd W (TB.out W hb))
  have FR : Hid (∀ p : Int, ∀ W, Below u0.heap.size u0 W → Calls Try.prog 24 #[.agg ((genTab L).cells hd).toArray, .int .i64 p] W fun e w' => e = .returned (.int .i64 (FreeS.freeS (genTab L) p)) ∧ Below W.heap.size W w') := Lib.hid (fun p W hb => FreeS.free_any _ hd p W (TB.out W hb) FEWP.out)
  have ATO : Hid (∀ q : Int, SetM.has (OnS.onS (genTab L) : Nat) q = true → ∃ gk kr ki : Nat, gk < (genTab L).groups.length ∧ kr < 2 ∧ (PlanM.ringAt (genTab L) gk kr)[ki]? = some q ∧ FreeS.freeS (genTab L) q = BdM.tot (FreeS.upL (genTab L) (genTab L).groups.length) + PassS.passS (genTab L) gk ∧ Sv (genTab L) gk kr ki q (FreeS.freeS (genTab L) q) 0 ⟨0, -1, -1, false⟩ (begunS (genTab L)) (List.replicate 8 0) 0 0) := Lib.hid (fun q hq => by
    obtain ⟨gk, kr, ki, e1, e2, e3, e4⟩ := at_on GX.out hq
    exact ⟨gk, kr, ki, e1, e2, e3, e4, sv_start GX.out e1 e2 e3 e4⟩)
  generalize ((OnS.onS (genTab L) : Nat) : Int) = on at *
  generalize (genTab L).cells hd = tc at *
  generalize genTab L = T at *
  have L1 := Lib.hid h1
  clear TB FEWP GX h1
  have L20 : Hid ((runsC (List.replicate 8 zRu)).length = 96) := Lib.hid (by rw [runs_len]; rfl)
  have L30 : Hid ((List.replicate 8 (0 : Int)).length = 8) := Lib.hid rfl
  have S0 : Hid (∀ (r : Rg) (rc : List Value) (cnt : List Int) (cross : Int), rc.length = 96 → cnt.length = 8 → (pC tc r rc cnt cross).toArray.size = 240) := Lib.hid (fun r rc cnt cross h2 h3 => by rw [List.size_toArray]; exact pC_len L1.out h2 h3)
  go_upto_region 3 with (first | (refine wpList_build rfl 34 [(0, .const (I (-1))), (1, .const (I (-1)))] rfl #[I (-1), I (-1)] _ (by rfl) (built34 _ _) ?_) | (refine Ru.store_mid rfl 34 _ _ rfl gx 132 #[I (-1), I (-1)] rfl rfl 57 _ _ H1.out 0 rfl info34 (by rw [S0.out _ _ _ _ L20.out L30.out]; show 132 + 2 ≤ 240; omega) (one34 _ _) (pC_ats L1.out L20.out L30.out _ _) ?_))
  have hput := H1.out.put 0 rfl (pC tc ⟨0, -1, -1, false⟩ (runsC (List.replicate 8 zRu)) (List.replicate 8 0) 0).toArray
  simp only [List.set_cons_succ, List.set_cons_zero] at hput
  generalize World.setRow u1 gx _ = u2 at hput ⊢
  have H2 := Lib.hid hput
  clear hput
  clear H1
  go_wp2_with (refine Row.wpList_load_g 32 _ rfl (by first | rfl | (go_simp; done) | fail) ⟨gx, 0, none⟩ rfl tc _ ((pb L1.out L20.out L30.out H2.out 0 rfl).lt) Try.underlying32 rfl IA.out ?_)
  refine (BE.out _ H2.out.bel).mono ?_
  rintro e u3 ⟨rfl, b3⟩
  have H3 := Lib.hid (H2.out.step b3)
  clear b3 H2
  have LBG : Hid ((runsC (begunS T)).length = 96) := Lib.hid (by rw [runs_len, begun_len])
  go_upto_region 4 with (refine Ru.store_mid rfl 46 _ _ rfl gx 135 (runsC (begunS T)).toArray rfl rfl 57 _ _ H3.out 0 rfl (by rw [List.size_toArray, LBG.out]; exact infoRs) (by rw [S0.out _ _ _ _ L20.out L30.out, List.size_toArray, LBG.out]; omega) (one_runs _) (pC_runs L1.out L20.out L30.out LBG.out) ?_)
  have hput := H3.out.put 0 rfl (pC tc ⟨0, -1, -1, false⟩ (runsC (begunS T)) (List.replicate 8 0) 0).toArray
  simp only [List.set_cons_succ, List.set_cons_zero] at hput
  generalize World.setRow u3 gx _ = u4 at hput ⊢
  have H4 := Lib.hid hput
  clear hput
  clear H3 BE L20
  go_wp2_with fail
  refine (RefS.place_any a1 8 _ (by omega) (by omega)).mono ?_
  rintro e w' ⟨rfl, rfl⟩
  obtain ⟨kn, hkn⟩ : ∃ kn : Nat, a1 % 8 = (kn : Int) := ⟨(a1 % 8).toNat, by omega⟩
  have hk8 : kn < 8 := by omega
  have hk9 : (kn : Int) < 8 := by omega
  rw [hkn]
  clear hkn
  go_wp2_with (refine Row.wpList_load_g 32 _ rfl (by first | rfl | (go_simp; done) | fail) ⟨gx, 0, none⟩ rfl tc _ ((pb L1.out LBG.out L30.out H4.out 0 rfl).lt) Try.underlying32 rfl IA.out ?_)
  refine (ON.out _ H4.out.bel).mono ?_
  rintro e u5 ⟨rfl, b5⟩
  have H5 := Lib.hid (H4.out.step b5)
  clear b5 H4 ON
  obtain ⟨ho, hho⟩ : ∃ x, SetM.has on kn = x := ⟨_, rfl⟩
  have HH : Hid (∀ W, Calls Try.prog 14 #[.int .i64 on, .int .i64 kn] W fun e w' => e = .returned (.bool ho) ∧ W = w') := Lib.hid (fun W => by rw [← hho]; exact RefS.rhas_any _ _ W)
  have HHO := Lib.hid hho
  clear hho
  go_wp2_with fail
  refine (HH.out _).mono ?_
  rintro e w' ⟨rfl, rfl⟩
  cases ho
  · go_wp2_with fail
    refine (awake_any _).mono ?_
    rintro e w9 ⟨rfl, b9⟩
    go_wp2
    go_ret
    exact ⟨rfl, BW0.out.trans ((H5.out.step b9).bel.mono BW0.out.size)⟩
  clear HH
  obtain ⟨gk, kr, ki, e1, e2, e3, e4, hS0⟩ := ATO.out kn HHO.out
  have TQ := Lib.hid (TK.out gx gk kr ki kn _ e1 e2 e3 e4)
  have FQ := Lib.hid (FR.out kn)
  have SV0 := Lib.hid hS0
  clear TK FR ATO HHO e1 e2 e3 e4 hS0
  generalize FreeS.freeS T kn = F at TQ FQ SV0
  go_wp2_with fail
  go_loopw [10, 11] (fun s i wr => ∃ (q : Nat) (r : Rg) (rs : List Ru) (cnt : List Int) (cross since : Int), q ≤ 2000 ∧ s = .int .i64 since ∧ i = .int .i64 q ∧ Sv T gk kr ki kn F q r rs cnt cross since ∧ Blk.Bks u0 [(gx, (pC tc r (runsC rs) cnt cross).toArray, 57)] wr) (fun _ i _ => 2000 - (intOf i).toNat)
  case atStart => exact ⟨0, _, _, _, 0, 0, by omega, rfl, rfl, SV0.out, H5.out⟩
  case round =>
    obtain ⟨q, r, rs, cnt, cross, since, hq, rfl, rfl, hS, hB⟩ := hrel
    have HB := Lib.hid hB
    have HS := Lib.hid hS
    have L2 : Hid ((runsC rs).length = 96) := Lib.hid (by rw [runs_len, hS.I.len])
    have L3 : Hid (cnt.length = 8) := Lib.hid hS.c8
    have hs0 := hS.s0
    clear hS hB H5 SV0
    by_cases hlt : q < 2000
    · have hlq : (q : Int) < 2000 := by omega
      have es : IntKind.i64.wrap (since + 1) = since + 1 := by rw [IntKind.wrap_i64]; omega
      by_cases hM0 : 0 < M.length
      · have hM1 : (0 : Int) < (M.length : Int) := by omega
        obtain ⟨j, hj⟩ : ∃ j : Nat, (q : Int) / 17 = (j : Int) := ⟨q / 17, by omega⟩
        have hjt : (q : Int).tdiv 17 = (j : Int) := by rw [Int.tdiv_eq_ediv_of_nonneg (by omega)]; exact hj
        have ej : IntKind.i64.wrap (j : Int) = (j : Int) := by rw [IntKind.wrap_i64]; omega
        obtain ⟨m, hm⟩ : ∃ m : Nat, m = j % M.length := ⟨_, rfl⟩
        have hml : m < M.length := by rw [hm]; exact Nat.mod_lt _ hM0
        have hmi : (j : Int).tmod (M.length : Int) = (m : Int) := by rw [Int.tmod_eq_emod_of_nonneg (by omega), hm]; rfl
        have hme : (j : Int) % (M.length : Int) = (m : Int) := by rw [hm]; rfl
        have hmk : (m : Int) < (M.length : Int) := by omega
        have em : IntKind.i64.wrap (m : Int) = (m : Int) := by rw [IntKind.wrap_i64]; omega
        have hz0 : ¬ (M.length : Int) = 0 := by omega
        clear hm
        obtain ⟨x, hx1, hx2⟩ := RW2.out m hml
        obtain rfl : a2 = some x := hx1
        have hz : wr.cell? (x.add m) = some (I (M.getD m 0)) := hx2 _ (BW0.out.trans (HB.out.bel.mono BW0.out.size))
        generalize M.getD m 0 = oo at hz
        clear hx2
        go_upto_region 15 with fail
        clear hz hme hmi hjt hj ej em hml hmk hz0
        go_wp2_with fail
        refine (RefS.rwith_any _ kn _).mono ?_
        rintro e w5 ⟨rfl, b5⟩
        have H6 := Lib.hid (HB.out.step b5)
        clear b5
        go_wp2_with fail
        refine (TQ.out q r rs cnt cross since _ w5 (by omega) HS.out (by rw [has_withv (q := (kn : Int)) ⟨by omega, by omega⟩]; simp) H6.out).mono ?_
        rintro e w7 ⟨st, en, r', rs', cnt', cross', rfl, hB, hS, hle⟩
        have H7 := Lib.hid hB
        have M2 : Hid ((runsC rs').length = 96) := Lib.hid (by rw [runs_len, hS.I.len])
        have M3 : Hid (cnt'.length = 8) := Lib.hid hS.c8
        have cK : w7.cell? ⟨gx, 135 + kn * 12, none⟩ = some (I (ruAt rs' kn).co) := by
          have := (pb L1.out M2.out M3.out H7.out 0 rfl).ln (kn * 12 + 0) _ (runs_at hS.I.len hk8 (j := 0) rfl)
          rw [Addr.add_mid] at this
          exact this
        clear hB HB H6 HS L2 L3
        by_cases hco : (ruAt rs' kn).co = 1
        · rw [hco] at cK
          rw [if_pos hco] at hle hS
          have HS2 := Lib.hid hS
          have hfn : ¬ F < 0 := by omega
          clear hS hco
          go_upto_region 19 with fail
          clear cK
          go_wp2_with (refine Row.wpList_load_g 32 _ rfl (by first | rfl | (go_simp; done) | fail) ⟨gx, 0, none⟩ rfl tc _ ((pb L1.out M2.out M3.out H7.out 0 rfl).lt) Try.underlying32 rfl IA.out ?_)
          refine (FQ.out _ H7.out.bel).mono ?_
          rintro e w8 ⟨rfl, b8⟩
          have H8 := Lib.hid (H7.out.step b8)
          clear b8 H7
          go_wp2_with fail
          go_roundw
          case rel => exact ⟨q + 1, _, _, _, _, 0, by omega, rfl, by go_num, HS2.out, H8.out⟩
          case measure => simp [intOf]; omega
        · rw [if_neg hco] at hle hS
          have HS2 := Lib.hid hS
          have hcb : ((ruAt rs' kn).co == 1) = false := beq_eq_false_iff_ne.2 hco
          have hfn : ¬ F < since + 1 := by omega
          clear hS
          generalize (ruAt rs' kn).co = cc at cK hco hcb
          go_upto_region 19 with fail
          clear cK hco hcb
          go_wp2_with (refine Row.wpList_load_g 32 _ rfl (by first | rfl | (go_simp; done) | fail) ⟨gx, 0, none⟩ rfl tc _ ((pb L1.out M2.out M3.out H7.out 0 rfl).lt) Try.underlying32 rfl IA.out ?_)
          refine (FQ.out _ H7.out.bel).mono ?_
          rintro e w8 ⟨rfl, b8⟩
          have H8 := Lib.hid (H7.out.step b8)
          clear b8 H7
          go_wp2_with fail
          go_roundw
          case rel => exact ⟨q + 1, _, _, _, _, since + 1, by omega, rfl, by go_num, HS2.out, H8.out⟩
          case measure => simp [intOf]; omega
      · have hM1 : ¬ (0 : Int) < (M.length : Int) := by omega
        go_upto_region 15 with fail
        go_wp2_with fail
        refine (RefS.rwith_any _ kn _).mono ?_
        rintro e w5 ⟨rfl, b5⟩
        have H6 := Lib.hid (HB.out.step b5)
        clear b5
        go_wp2_with fail
        refine (TQ.out q r rs cnt cross since _ w5 (by omega) HS.out (by rw [has_withv (q := (kn : Int)) ⟨by omega, by omega⟩]; simp) H6.out).mono ?_
        rintro e w7 ⟨st, en, r', rs', cnt', cross', rfl, hB, hS, hle⟩
        have H7 := Lib.hid hB
        have M2 : Hid ((runsC rs').length = 96) := Lib.hid (by rw [runs_len, hS.I.len])
        have M3 : Hid (cnt'.length = 8) := Lib.hid hS.c8
        have cK : w7.cell? ⟨gx, 135 + kn * 12, none⟩ = some (I (ruAt rs' kn).co) := by
          have := (pb L1.out M2.out M3.out H7.out 0 rfl).ln (kn * 12 + 0) _ (runs_at hS.I.len hk8 (j := 0) rfl)
          rw [Addr.add_mid] at this
          exact this
        clear hB HB H6 HS L2 L3
        by_cases hco : (ruAt rs' kn).co = 1
        · rw [hco] at cK
          rw [if_pos hco] at hle hS
          have HS2 := Lib.hid hS
          have hfn : ¬ F < 0 := by omega
          clear hS hco
          go_upto_region 19 with fail
          clear cK
          go_wp2_with (refine Row.wpList_load_g 32 _ rfl (by first | rfl | (go_simp; done) | fail) ⟨gx, 0, none⟩ rfl tc _ ((pb L1.out M2.out M3.out H7.out 0 rfl).lt) Try.underlying32 rfl IA.out ?_)
          refine (FQ.out _ H7.out.bel).mono ?_
          rintro e w8 ⟨rfl, b8⟩
          have H8 := Lib.hid (H7.out.step b8)
          clear b8 H7
          go_wp2_with fail
          go_roundw
          case rel => exact ⟨q + 1, _, _, _, _, 0, by omega, rfl, by go_num, HS2.out, H8.out⟩
          case measure => simp [intOf]; omega
        · rw [if_neg hco] at hle hS
          have HS2 := Lib.hid hS
          have hcb : ((ruAt rs' kn).co == 1) = false := beq_eq_false_iff_ne.2 hco
          have hfn : ¬ F < since + 1 := by omega
          clear hS
          generalize (ruAt rs' kn).co = cc at cK hco hcb
          go_upto_region 19 with fail
          clear cK hco hcb
          go_wp2_with (refine Row.wpList_load_g 32 _ rfl (by first | rfl | (go_simp; done) | fail) ⟨gx, 0, none⟩ rfl tc _ ((pb L1.out M2.out M3.out H7.out 0 rfl).lt) Try.underlying32 rfl IA.out ?_)
          refine (FQ.out _ H7.out.bel).mono ?_
          rintro e w8 ⟨rfl, b8⟩
          have H8 := Lib.hid (H7.out.step b8)
          clear b8 H7
          go_wp2_with fail
          go_roundw
          case rel => exact ⟨q + 1, _, _, _, _, since + 1, by omega, rfl, by go_num, HS2.out, H8.out⟩
          case measure => simp [intOf]; omega
    · have hge : ¬ (q : Int) < 2000 := by omega
      go_wp2_with fail
      refine (awake_any _).mono ?_
      rintro e w9 ⟨rfl, b9⟩
      go_wp2
      go_ret
      exact ⟨rfl, BW0.out.trans ((HB.out.step b9).bel.mono BW0.out.size)⟩
/-! ### the row's step -/
theorem lifted (os : Os) (started : os.Started) (H : Type) (enc : TypeId × Value → H) :
    ReturnsInHanded {} Try.checked os 6 .any (Rows.ringServesSpec.pre6 enc Try.prog Try.f6 Rows.ringServesRow.domain false) (Rows.ringServesSpec.post enc Try.prog Try.f6 false true false false) := by
  refine returnsInHanded_of_change (C := Try.checked) own started (by kernel_rfl) Try.func6
    (ChangeSpec.witness6 (enc := enc) (C := Try.checked) false ⟨#[], #[.slice none 0 0, .int .i64 0, .slice none 0 0], []⟩ 8 (by kernel_rfl) (by kernel_rfl) (by kernel_rfl) (by kernel_rfl)) ?_
  intro W base args ds gs before hval0 hW hcnd _
  have hval : ∀ (j : Nat) t v, Try.f6.params[j]? = some t → args[j]? = some v → Value.okWide Try.prog W .any base t v := hval0
  have hW' := hW
  obtain ⟨p, q, hA0, hV, rfl, hfz, hnd⟩ := hW
  have hA : DataW.TrodAll enc Try.prog W 0 (fun _ => true) true Try.f6.params.toList args.toList ds p := hA0
  rw [Try.params6] at hA hval
  obtain ⟨v0, vs0, d0, ds0, p0, q0, hargs, rfl, rfl, h0, r0⟩ := trodAll_cons hA
  obtain ⟨v1, vs1, d1, ds1, p1, q1, rfl, rfl, rfl, h1, r1⟩ := trodAll_cons r0
  obtain ⟨v2, vs2, d2, ds2, p2, q2, rfl, rfl, rfl, h2, r2⟩ := trodAll_cons r1
  obtain ⟨rfl, rfl, rfl⟩ := trodAll_nil r2
  obtain rfl : args = #[v0, v1, v2] := by cases args; simp_all
  obtain ⟨rfl, rfl⟩ := trodVars_none hV
  obtain ⟨a0, len0, cap0, rfl⟩ := okWide_slice Try.underlying22 (hval 0 22 v0 rfl rfl)
  have k0 := h0
  have lt0 : ∀ x ∈ p0, x.block < W.heap.size := by obtain ⟨m, hm⟩ := k0; exact DataW.trod_lt m _ _ _ hm
  obtain ⟨z0, w0⟩ : ∃ zs, IsRow .i64 W a0 len0 cap0 zs := by
    obtain ⟨fuel, hf⟩ := h0
    rcases open_ints Try.underlying22 Try.underlying3 (by kernel_rfl) hf with ⟨hcs, _⟩ | ⟨x, l, c, zs, hcs, _, hl, hm, hz, _, hcell, hwz⟩
    · simp [Value.cells] at hcs
      obtain ⟨rfl, rfl, rfl⟩ := hcs
      exact ⟨[], .inl ⟨rfl, rfl, rfl, rfl⟩⟩
    · simp [Value.cells] at hcs
      obtain ⟨rfl, rfl, rfl⟩ := hcs
      exact ⟨zs, .inr ⟨_, rfl, hl, hm, by simpa using hz, hcell, hwz⟩⟩
  obtain ⟨a1, rfl, rfl, rfl, w1⟩ := open_int Try.underlying3 (hval 1 3 v1 rfl rfl) h1
  obtain ⟨a2, len2, cap2, rfl⟩ := okWide_slice Try.underlying22 (hval 2 22 v2 rfl rfl)
  have k2 := h2
  have lt2 : ∀ x ∈ p2, x.block < W.heap.size := by obtain ⟨m, hm⟩ := k2; exact DataW.trod_lt m _ _ _ hm
  obtain ⟨z2, w2⟩ : ∃ zs, IsRow .i64 W a2 len2 cap2 zs := by
    obtain ⟨fuel, hf⟩ := h2
    rcases open_ints Try.underlying22 Try.underlying3 (by kernel_rfl) hf with ⟨hcs, _⟩ | ⟨x, l, c, zs, hcs, _, hl, hm, hz, _, hcell, hwz⟩
    · simp [Value.cells] at hcs
      obtain ⟨rfl, rfl, rfl⟩ := hcs
      exact ⟨[], .inl ⟨rfl, rfl, rfl, rfl⟩⟩
    · simp [Value.cells] at hcs
      obtain ⟨rfl, rfl, rfl⟩ := hcs
      exact ⟨zs, .inr ⟨_, rfl, hl, hm, by simpa using hz, hcell, hwz⟩⟩
  clear hA0 hval0
  refine (walk a0 len0 cap0 z0 a1 a2 len2 cap2 z2 W w0 w1 w2).mono fun e W' ⟨he, bel⟩ => ?_
  subst he
  exact ⟨_, rfl, _, _, _, [], _, [], hW', trodAll_mk1 (shut_bool Try.underlying4 _), (trodAll_cons_mk (Below.trod laidOut (by kernel_rfl) (of_decide_eq_true (by kernel_rfl)) k0 bel lt0) (trodAll_cons_mk (shut_int Try.underlying3 w1) (trodAll_cons_mk (Below.trod laidOut (by kernel_rfl) (of_decide_eq_true (by kernel_rfl)) k2 bel lt2) trodAll_mk0))), rfl, bel.frame _, fun h => by cases h⟩
theorem over : Rows.ringServesRow.holds Try.pinned (OpenSpec.ofChange Rows.ringServesSpec) :=
  OpenClaim.holds_of_wide 6 Try.f6 rfl rfl rfl rfl rfl rfl rfl ⟨rfl, rfl, rfl, rfl, rfl⟩ rfl rfl rfl rfl rfl (by kernel_rfl) Try.func6 (by kernel_rfl)
    (of_decide_eq_true (by kernel_rfl)) (by unfold Func.isWrapper; first | (rw [if_pos (by decide +kernel)]; kernel_rfl) | (rw [if_neg (by decide +kernel)]; exact ⟨rfl, rfl⟩))
    (fun os started H enc _ => lifted os started H enc)
/-- the statement -/
theorem proved : Rows.RingServesSaid :=
  over
#print axioms proved
end ringServes
end Go.Proofs.Ytjgpljnbeolapaa
