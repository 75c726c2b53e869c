/- DetectApart returns true at any numbers, any samples and any detector: what one detector sees is nothing to another one's channel, and samples behind the detectors are nothing to anybody. No condition. -/
import Derived.Test.YtbmcendlpeaaeaaRows
import Derived.Test.YtbmcendlpeaaeaaPart10
import Derived.Test.YtbmcendlpeaaeaaPart01
import Derived.Test.YtbmcendlpeaaeaaPart02
import Derived.Deep.Cut
import Derived.LoopTactic
import Derived.BigQuiet
import Derived.WalkKit
import Derived.WalkLawsBesides
import Derived.ProofKit
import Derived.OpenShut
import Derived.ShutString
import Derived.ChangeOld
import Derived.Below
set_option linter.unusedVariables false
set_option linter.unusedSimpArgs false
set_option linter.unusedSectionVars false
set_option maxHeartbeats 8000000
set_option maxRecDepth 100000
namespace Go.Proofs.Ytbmcendlpeaaeaa
namespace detectApart
open Go.ChangeShapes Go.WideShapes Go.ChangeAt Go.RowKit
open Tab Dtc
open GenT (genTab)
theorem own : ownKnob Try.prog.godebug = none := by kernel_rfl
theorem laidOut : laidOutB Try.prog = true := by kernel_rfl
/-- WHAT THE WALK IS TOLD OF A SLICE OF INTEGERS THAT CAME IN: it is nil; or it leads to a row of 'cap' cells, the numbers 'zs' (the first 'len' are its elements, the rest its spare room), each fitting its kind. -/
def IsRow (k : IntKind) (w : World) (a : Option Addr) (len cap : Nat) (zs : List Int) : Prop :=
  (a = none ∧ len = 0 ∧ cap = 0 ∧ zs = []) ∨
  ∃ x, a = some x ∧ len ≤ cap ∧ cap ≤ maxLen ∧ zs.length = cap ∧ (∀ i, i < zs.length → w.cell? (x.add i) = some (.int k (zs.getD i 0))) ∧ ∀ n ∈ zs, (Lit.int k n).wf = true
theorem isRow_int {w : World} {a : Option Addr} {len cap : Nat} {zs : List Int} (h : IsRow .i64 w a len cap zs) : (zs.take len).length = len ∧ Tab.IntRow w ⟨a, cap⟩ (zs.take len) := by
  rcases h with ⟨rfl, rfl, rfl, rfl⟩ | ⟨x, rfl, h1, h2, h3, h4, _⟩
  · exact ⟨rfl, .inl ⟨rfl, rfl, rfl⟩⟩
  · have hl : (zs.take len).length = len := by rw [List.length_take]; omega
    refine ⟨hl, .inr ⟨x, rfl, by rw [hl]; exact h1, h2, fun i v hv j u hu => ?_⟩⟩
    have hi : i < len := by have := (List.getElem?_eq_some_iff.1 hv).1; omega
    match j, hu with
    | 0, hu =>
      simp at hu
      subst hu
      rw [List.getElem?_take, if_pos hi] at hv
      have := h4 i (by omega)
      rw [List.getD_eq_getElem?_getD, hv] at this
      rw [Nat.mul_one, Tab.add_two, Nat.add_zero]
      exact this
    | j + 1, hu => simp at hu
/-! ### the walk -/
theorem walk (a0 : Option Addr) (len0 cap0 : Nat) (z0 : List Int) (a1 : Option Addr) (len1 cap1 : Nat) (z1 : Nat → Nat) (a2 : Int) (a3 : Nat) (w : World) (w0 : IsRow .i64 w a0 len0 cap0 z0) (w1 : Recs.IsFlts w a1 len1 cap1 z1) (w2 : (Lit.int .i64 a2).wf = true) (w3 : (Lit.float .f64 a3).wf = true) :
    Calls Try.prog 6 #[.slice a0 len0 cap0, .slice a1 len1 cap1, .int .i64 a2, .float .f64 a3] w fun e w' => e = .returned (.bool true) ∧ Below w.heap.size w w' := by
  obtain ⟨x, hA, hl1, hc1⟩ := Lvl.flts_at w1
  have HA := Lib.hid hA
  unfold maxLen at hc1
  clear hA w1
  have HY : Hid (a3 < 18446744073709551616) := Lib.hid (by simpa [Lit.wf] using w3)
  clear w3
  obtain ⟨hlen, hrow⟩ := isRow_int w0
  obtain ⟨L, hL⟩ : ∃ L, L = z0.take len0 := ⟨_, rfl⟩
  rw [← hL] at hlen hrow
  clear hL w0
  subst hlen
  have hz := (zero_of_info GenT.infoTz).1
  have hZs : (Clone.zTab.cells Clone.zHd).length = 131 := rfl
  generalize hZ : GenT.zTab.cells GenT.zHd = Z at *
  have ZS : Z.toArray.size = 131 := by rw [← hZ]; rfl
  clear hZ hZs
  have GD := Lib.hid (gen_dets_len L)
  go_enter Try.func6, Try.ntmps6
  go_wp2_with fail
  refine (GenT.table_any a0 cap0 L w hrow).mono ?_
  rintro e u0 ⟨hd, rfl, ht, hb⟩
  have CS := GenT.cells_cut hd ht.ph ht.cf ht.fl
  have ON := (cells_ok ht).one
  have HT : Hid (∀ W, Below u0.heap.size u0 W → IsTab W hd (genTab L)) := Lib.hid (fun W hb => ht.below hb)
  have B0 := Lib.hid hb
  have IA : Hid ((Try.prog.info? 31).map (·.size) = some ((genTab L).cells hd).length) := Lib.hid (by rw [CS]; exact infoT)
  clear hb ht
  generalize hc : (genTab L).cells hd = c at *
  have HC := Lib.hid hc
  clear hc
  go_upto_region 2 with (refine Row.wpList_store_new rfl 31 _ _ rfl u0 Z.toArray c.toArray rfl rfl rfl (by rw [List.size_toArray]; exact IA.out) (by rw [ZS, List.size_toArray, CS]) ON ?_)
  have hb2 : Below u0.heap.size u0 (u0.alloc (.cells c.toArray 31)) := (Below.refl _ _).alloc (Nat.le_refl _) _
  have hl : Lies (u0.alloc (.cells c.toArray 31)) ⟨u0.heap.size, 0, none⟩ c := Row.lies_new _ _ _
  have TB0 : Hid (∀ W, Below (u0.alloc (.cells c.toArray 31)).heap.size (u0.alloc (.cells c.toArray 31)) W → IsTab W hd (genTab L)) := Lib.hid (fun W hb => HT.out W (hb2.trans (hb.mono hb2.size)))
  generalize u0.alloc (.cells c.toArray 31) = u at hb2 hl TB0 ⊢
  have TB : Hid (∀ W, Below u.heap.size u W → IsTab W hd (genTab L)) := TB0
  have A0 : Hid (Below w.heap.size w u) := Lib.hid (B0.out.trans (hb2.mono B0.out.size))
  have A1 : Hid (∀ W, Below u.heap.size u W → Lies W ⟨u0.heap.size, 0, none⟩ c) := Lib.hid (fun W hb => Lies.below hl hb)
  clear hb2 hl TB0 HT B0 hrow hz ZS ON CS
  generalize u0.heap.size = tb at *
  obtain ⟨ds, hds⟩ : ∃ d, (genTab L).dets = d := ⟨_, rfl⟩
  obtain ⟨n, hn⟩ : ∃ m, ds.length = m := ⟨_, rfl⟩
  have HDS := Lib.hid hds
  have HN := Lib.hid hn
  rw [hds, hn] at GD
  clear hds hn
  have few : n ≤ 1000 := by have := GD.out; omega
  have HT := TB
  have ST : Hid (n ≤ 1000 → ∀ W, Below u.heap.size u W → ∀ (a : Option Addr) (cap : Nat) (l : List Ch) (m : Nat) (b : Option Addr) (cap2 : Nat) (xs : List Nat) (k : Nat), RowOf 7 Ch.cells W ⟨a, cap⟩ l → l.length = m → FltRow W ⟨b, cap2⟩ xs → xs.length = k → Calls Try.prog 9 #[.agg c.toArray, .slice a m cap, .slice b k cap2] W fun e w' => ∃ s : Sl, e = .returned (s.val n) ∧ RowOf 7 Ch.cells w' s (dts ds l xs) ∧ Below W.heap.size W w') := Lib.hid (fun few W hb a cap l m b cap2 xs k hl hm hx hk => by subst hm hk; have := step_any (HT.out W hb) (by rw [HDS.out, HN.out]; exact few) hl hx; rw [HC.out, HDS.out, HN.out] at this; exact this)
  have RD : Hid (n ≤ 1000 → ∀ W, Below u.heap.size u W → ∀ (a : Option Addr) (cap : Nat) (l : List Ch) (m : Nat) (b : Option Addr) (cap2 : Nat) (xs : List Nat) (k : Nat), RowOf 7 Ch.cells W ⟨a, cap⟩ l → l.length = m → FltRow W ⟨b, cap2⟩ xs → xs.length = k → Calls Try.prog 10 #[.agg c.toArray, .slice a m cap, .slice b k cap2] W fun e w' => ∃ s : Sl, e = .returned (s.val n) ∧ RowOf 7 Ch.cells w' s (dts ds l xs) ∧ Below W.heap.size W w') := Lib.hid (fun few W hb a cap l m b cap2 xs k hl hm hx hk => by subst hm hk; have := rdet_any (HT.out W hb) (by rw [HDS.out, HN.out]; exact few) hl hx; rw [HC.out, HDS.out, HN.out] at this; exact this)
  have HE : Hid (∀ W, Below u.heap.size u W → ∀ (a : Option Addr) (cap : Nat) (l : List Ch) (m : Nat), RowOf 7 Ch.cells W ⟨a, cap⟩ l → l.length = m → Calls Try.prog 12 #[.agg c.toArray, .slice a m cap] W fun e w' => e = .returned (.int .i64 (her ds l (min n m) : Nat)) ∧ Below W.heap.size W w') := Lib.hid (fun W hb a cap l m hl hm => by subst hm; have := here_any (HT.out W hb) hl; rw [HC.out, HDS.out, HN.out] at this; exact this)
  have RH : Hid (∀ W, Below u.heap.size u W → ∀ (a : Option Addr) (cap : Nat) (l : List Ch) (m : Nat), RowOf 7 Ch.cells W ⟨a, cap⟩ l → l.length = m → Calls Try.prog 13 #[.agg c.toArray, .slice a m cap] W fun e w' => e = .returned (.int .i64 (her ds l (min n m) : Nat)) ∧ Below W.heap.size W w') := Lib.hid (fun W hb a cap l m hl hm => by subst hm; have := rhere_any (HT.out W hb) hl; rw [HC.out, HDS.out, HN.out] at this; exact this)
  have hdl := (HT.out u (Below.refl _ _)).dets.len
  rw [HDS.out, HN.out] at hdl
  obtain ⟨sg, ⟨da, dcap⟩, sr, sb⟩ := hd
  have Q113 : Hid (∀ W, Below u.heap.size u W → W.cell? ⟨tb, 113, none⟩ = some (.slice da n dcap)) := Lib.hid (fun W hb => by
    have := A1.out W hb 113 (.slice da n dcap) (by rw [← HC.out, ← List.getElem?_toArray, (cells_ok (HT.out u (Below.refl _ _))).d, HDS.out, HN.out])
    simpa [Addr.add] using this)
  dsimp only at hdl
  unfold maxLen at hdl
  obtain ⟨hdl1, hdl2⟩ := hdl
  have k113 := Q113.out u (Below.refl _ _)
  by_cases h40 : 40 < len1
  · go_wp2_with fail
    refine (Dtc.awake_any _).mono ?_
    rintro e u9 ⟨rfl, b9⟩
    have BF := Lib.hid (A0.out.trans (b9.mono A0.out.size))
    clear b9
    go_wp2
    go_ret
    exact ⟨rfl, BF.out⟩
  rcases Nat.eq_zero_or_pos n with hn0 | hn0
  · subst hn0
    have hbe : (((0 : Nat) : Int) == 0) = true := rfl
    go_wp2_with fail
    refine (Dtc.awake_any _).mono ?_
    rintro e u9 ⟨rfl, b9⟩
    have BF := Lib.hid (A0.out.trans (b9.mono A0.out.size))
    clear b9
    go_wp2
    go_ret
    exact ⟨rfl, BF.out⟩
  have hbe : ((n : Int) == 0) = false := by rw [beq_eq_false_iff_ne]; omega
  obtain ⟨k, hk⟩ : ∃ k : Nat, a2 % (n : Int) = (k : Int) := ⟨(a2 % (n : Int)).toNat, by have := Int.emod_nonneg a2 (show (n : Int) ≠ 0 by omega); omega⟩
  have hkn : k < n := by have := Int.emod_lt_of_pos a2 (show (0 : Int) < n by omega); omega
  have n8 := GD.out
  have PL : Hid (∀ W, Calls Try.prog 18 #[.int .i64 a2, .int .i64 (n : Int)] W fun e w' => e = .returned (.int .i64 k) ∧ W = w') := Lib.hid (fun W => by have := RefS.place_any a2 (n : Int) W (by omega) (by omega); rwa [hk] at this)
  clear hk
  go_upto_region 5 with (go_at_call 18; refine (PL.out _).mono ?_; rintro e w' ⟨rfl, rfl⟩)
  clear k113 PL hbe
  go_wp2_with fail
  go_loopw [11, 12, 13] (fun va vb i wr => ∃ (q m : Nat) (la lb : List Ch) (aa ab : Option Addr) (ca cb : Nat), q ≤ len1 ∧ i = .int .i64 q ∧ va = .slice aa m ca ∧ vb = .slice ab m cb ∧ la.length = m ∧ lb.length = m ∧ RowOf 7 Ch.cells wr ⟨aa, ca⟩ la ∧ RowOf 7 Ch.cells wr ⟨ab, cb⟩ lb ∧ Hid (∀ d, d < n → d ≠ k → la.getD d zCh = lb.getD d zCh) ∧ Below u.heap.size u wr) (fun _ _ i _ => len1 - (intOf i).toNat)
  case atStart => exact ⟨0, 0, [], [], none, none, 0, 0, by omega, rfl, rfl, rfl, rfl, rfl, RowOf.nil _, RowOf.nil _, Lib.hid (fun _ _ _ => rfl), Below.refl _ _⟩
  case round =>
    rename World => wq
    obtain ⟨q, m, la, lb, aa, ab, ca, cb, hq, rfl, rfl, rfl, hla, hlb, hra, hrb, HEQ, hbw⟩ := hrel
    have HLA := Lib.hid hla
    have HLB := Lib.hid hlb
    have HRA := Lib.hid hra
    have HRB := Lib.hid hrb
    have HBW := Lib.hid hbw
    clear hla hlb hra hrb hbw
    by_cases hlt : q < len1
    · have h0 := ((Blk.Bks.nil wq).alloc #[F 0, F 0, F 0, F 0, F 0, F 0, F 0, F 0, F 0, F 0, F 0, F 0, F 0, F 0, F 0, F 0] 55).alloc #[F 0, F 0, F 0, F 0, F 0, F 0, F 0, F 0, F 0, F 0, F 0, F 0, F 0, F 0, F 0, F 0] 55
      rw [show (wq.alloc (.cells #[F 0, F 0, F 0, F 0, F 0, F 0, F 0, F 0, F 0, F 0, F 0, F 0, F 0, F 0, F 0, F 0] 55)).heap.size = wq.heap.size + 1 by simp] at h0
      go_upto_region 10 with fail
      generalize World.alloc (World.alloc wq _) _ = v0 at h0 ⊢
      generalize hgb : wq.heap.size + 1 = gb at h0 ⊢
      have hga : wq.heap.size < gb := by omega
      generalize wq.heap.size = ga at h0 hga ⊢
      clear hgb
      have H0 := Lib.hid h0
      clear h0
      obtain ⟨S, HSd⟩ : ∃ S : Nat → Nat, Hid (∀ d, S d = z1 ((q + d) % len1)) := ⟨fun d => z1 ((q + d) % len1), Lib.hid (fun d => rfl)⟩
      obtain ⟨R, HRd⟩ : ∃ R : Nat → Nat, Hid (∀ d, R d = if d = k ∨ n ≤ d then a3 else S d) := ⟨fun d => if d = k ∨ n ≤ d then a3 else S d, Lib.hid (fun d => rfl)⟩
      have SW : Hid (∀ d, S d < 18446744073709551616) := Lib.hid (fun d => by rw [HSd.out]; exact (HA.out _ (Nat.mod_lt _ (by omega))).2.2)
      have RW_ : Hid (∀ d, R d < 18446744073709551616) := Lib.hid (fun d => by rw [HRd.out]; split; exact HY.out; exact SW.out d)
      go_wp2_with fail
      go_loopw [16] (fun i wr' => ∃ (j : Nat), j ≤ 16 ∧ i = .int .i64 j ∧ Blk.Bks wq [(gb, arrF R j, 55), (ga, arrF S j, 55)] wr') (fun i _ => 16 - (intOf i).toNat)
      case atStart => exact ⟨0, by omega, rfl, by rw [arrF_zero, arrF_zero]; exact H0.out⟩
      case round =>
        clear H0
        obtain ⟨j, hj, rfl, hB⟩ := hrel
        have HB := Lib.hid hB
        clear hB
        have BUW : Hid (Below u.heap.size u wr) := Lib.hid (HBW.out.trans (HB.out.bel.mono HBW.out.size))
        by_cases hjl : j < 16
        · obtain ⟨i1, hi1⟩ : ∃ i1, (q + j) % len1 = i1 := ⟨_, rfl⟩
          have hi2 : i1 < len1 := by rw [← hi1]; exact Nat.mod_lt _ (by omega)
          have hr1 : ((q : Int) + (j : Int)).tmod (len1 : Int) = (i1 : Int) := by
            rw [Int.tmod_eq_emod_of_nonneg (by omega), ← hi1]
            show _ = (((q + j) % len1 : Nat) : Int)
            rw [Int.natCast_emod, Int.natCast_add]
          have HSJ : Hid (S j = z1 i1) := Lib.hid (by rw [HSd.out, hi1])
          clear hi1
          obtain ⟨hx, hzl, hxw⟩ := HA.out i1 hi2
          have hzc : wr.cell? (x.add i1) = some (.float .f64 (z1 i1)) := Lvl.at_below hzl (A0.out.trans (BUW.out.mono A0.out.size))
          subst hx
          have hne0 : ((len1 : Int) == 0) = false := by rw [beq_eq_false_iff_ne]; omega
          have c1 : wr.cell? ⟨ga, j, none⟩ = some (F 0) := HB.out.cell 1 j rfl (by rw [arrF_at hjl, if_neg (by omega)])
          have f1 : wr.frozen? ⟨ga, j, none⟩ = false := HB.out.frozen 1 j rfl
          have s1 : Sem.run Try.prog (store ⟨ga, j, none⟩ (.float .f64 (z1 i1))) wr = .ok () (wr.setCell ⟨ga, j, none⟩ (.float .f64 (z1 i1))) := GenD.run_store_float c1 f1
          go_upto_region 14 with fail
          have hb1 := HB.out.set 1 j rfl (F (z1 i1))
          simp only [List.set_cons_succ, List.set_cons_zero] at hb1
          generalize World.setCell wr _ _ = v1 at hb1 ⊢
          rw [← HSJ.out, arrF_set hjl] at hb1
          rw [← HSJ.out]
          have HB1 := Lib.hid hb1
          clear hb1 c1 f1 s1 hzc hzl hxw hi2 hne0 HSJ HB BUW
          have k1 : v1.cell? ⟨ga, j, none⟩ = some (F (S j)) := HB1.out.cell 1 j rfl (by rw [arrF_at hjl, if_pos (by omega)])
          have c1 : v1.cell? ⟨gb, j, none⟩ = some (F 0) := HB1.out.cell 0 j rfl (by rw [arrF_at hjl, if_neg (by omega)])
          have f1 : v1.frozen? ⟨gb, j, none⟩ = false := HB1.out.frozen 0 j rfl
          have s1 : Sem.run Try.prog (store ⟨gb, j, none⟩ (.float .f64 (S j))) v1 = .ok () (v1.setCell ⟨gb, j, none⟩ (.float .f64 (S j))) := GenD.run_store_float c1 f1
          go_upto_region 15 with fail
          have hb1 := HB1.out.set 0 j rfl (F (S j))
          simp only [List.set_cons_succ, List.set_cons_zero] at hb1
          generalize World.setCell v1 _ _ = v2 at hb1 ⊢
          have HB2 := Lib.hid hb1
          clear hb1 c1 f1 s1 k1 HB1
          have k113 := Q113.out v2 (HBW.out.trans (HB2.out.bel.mono HBW.out.size))
          have c2 : v2.cell? ⟨gb, j, none⟩ = some (F (S j)) := HB2.out.cell 0 j rfl (arrF_got hjl)
          have f2 : v2.frozen? ⟨gb, j, none⟩ = false := HB2.out.frozen 0 j rfl
          have s2 : Sem.run Try.prog (store ⟨gb, j, none⟩ (.float .f64 a3)) v2 = .ok () (v2.setCell ⟨gb, j, none⟩ (.float .f64 a3)) := GenD.run_store_float c2 f2
          by_cases hjk : j = k
          · have hbk : ((j : Int) == (k : Int)) = true := by rw [hjk]; exact beq_self_eq_true _
            have HRJ : Hid (R j = a3) := Lib.hid (by rw [HRd.out, if_pos (Or.inl hjk)])
            clear hjk
            go_upto_region 12 with fail
            have hb3 := HB2.out.set 0 j rfl (F a3)
            simp only [List.set_cons_succ, List.set_cons_zero] at hb3
            generalize World.setCell v2 _ _ = v3 at hb3 ⊢
            rw [set_two, ← HRJ.out, arrF_set hjl] at hb3
            have HB3 := Lib.hid hb3
            clear hb3 HB2 c2 f2 s2
            go_wp2
            go_roundw
            case rel => exact ⟨j + 1, by omega, by go_num, HB3.out⟩
            case measure => simp [intOf]; omega
          · have hbk : ((j : Int) == (k : Int)) = false := by rw [beq_eq_false_iff_ne]; omega
            by_cases hjn : n ≤ j
            · have HRJ : Hid (R j = a3) := Lib.hid (by rw [HRd.out, if_pos (Or.inr hjn)])
              clear hjk
              go_upto_region 12 with fail
              have hb3 := HB2.out.set 0 j rfl (F a3)
              simp only [List.set_cons_succ, List.set_cons_zero] at hb3
              generalize World.setCell v2 _ _ = v3 at hb3 ⊢
              rw [set_two, ← HRJ.out, arrF_set hjl] at hb3
              have HB3 := Lib.hid hb3
              clear hb3 HB2 c2 f2 s2
              go_wp2
              go_roundw
              case rel => exact ⟨j + 1, by omega, by go_num, HB3.out⟩
              case measure => simp [intOf]; omega
            · have HRJ : Hid (R j = S j) := Lib.hid (by rw [HRd.out, if_neg (by omega)])
              clear hjk c2 f2 s2
              have hb3 := HB2.out
              rw [← HRJ.out, arrF_set hjl] at hb3
              have HB3 := Lib.hid hb3
              clear hb3 HB2
              go_wp2
              go_roundw
              case rel => exact ⟨j + 1, by omega, by go_num, HB3.out⟩
              case measure => simp [intOf]; omega
        · obtain rfl : j = 16 := by omega
          have HFS : Hid (FltRow wr ⟨some ⟨ga, 0, none⟩, 16⟩ ((List.range 16).map S)) := Lib.hid (arrF_row (HB.out.at 1 rfl) (fun d _ => SW.out d))
          have HFR : Hid (FltRow wr ⟨some ⟨gb, 0, none⟩, 16⟩ ((List.range 16).map R)) := Lib.hid (arrF_row (HB.out.at 0 rfl) (fun d _ => RW_.out d))
          have HRA2 := Lib.hid (HRA.out.below HB.out.bel)
          have HRB2 := Lib.hid (HRB.out.below HB.out.bel)
          have HXS : Hid (∀ d, d < n → d ≠ k → ((List.range 16).map S).getD d NAN = ((List.range 16).map R).getD d NAN) := Lib.hid (fun d h1 h2 => by rw [range_getD (by omega), range_getD (by omega), HRd.out, if_neg (by omega)])
          have HLX : Hid (((List.range 16).map S).length = 16) := Lib.hid (by simp)
          have HLY : Hid (((List.range 16).map R).length = 16) := Lib.hid (by simp)
          generalize (List.range 16).map S = xS at HFS HXS HLX
          generalize (List.range 16).map R = xR at HFR HXS HLY
          clear HSd HRd SW RW_ HB HRA HRB
          go_upto_region 17 with fail
          refine QT.region wr.heap.size 3 (by kernel_rfl) (by kernel_rfl) ?_
          simp only [List.take_succ_cons, List.take_zero]
          repeat first
              | (refine wpQuiet_load rfl 31 _ rfl ⟨tb, 0, none⟩ rfl c _ (fun w' ⟨p, e⟩ => by rw [e]; exact A1.out _ (BUW.out.trans (p.below.mono BUW.out.size))) Try.underlying31 rfl IA.out ?_
                 dsimp only [Act.put]
                 simp only [List.setIfInBounds_toArray, List.set_cons_zero, List.set_cons_succ])
              | (quiet_step (fail))
          refine wpQuiet_nil ?_
          intro _ hw'
          obtain ⟨p, rfl⟩ := hw'
          simp only [List.drop_succ_cons, List.drop_zero]
          have hbp := p.below
          generalize p.world = v4p at hbp ⊢
          go_wp2_with fail
          refine (ST.out few v4p (BUW.out.trans (hbp.mono BUW.out.size)) aa ca la m (some ⟨ga, 0, none⟩) 16 xS 16 (HRA2.out.below hbp) HLA.out (HFS.out.below hbp) HLX.out).mono ?_
          rintro e v4 ⟨⟨na, nca⟩, rfl, hrow, hb⟩
          have hbc := hbp.trans (hb.mono hbp.size)
          clear hb hbp
          dsimp only [Tab.Sl.val]
          have HFR2 := Lib.hid (HFR.out.below hbc)
          have HRB3 := Lib.hid (HRB2.out.below hbc)
          have HBW4 := Lib.hid (BUW.out.trans (hbc.mono BUW.out.size))
          have HR5 := Lib.hid hrow
          clear hbc hrow HFR HRB2 HFS HRA2
          go_upto_region 18 with fail
          refine QT.region v4.heap.size 3 (by kernel_rfl) (by kernel_rfl) ?_
          simp only [List.take_succ_cons, List.take_zero]
          repeat first
              | (refine wpQuiet_load rfl 31 _ rfl ⟨tb, 0, none⟩ rfl c _ (fun w' ⟨p, e⟩ => by rw [e]; exact A1.out _ (HBW4.out.trans (p.below.mono HBW4.out.size))) Try.underlying31 rfl IA.out ?_
                 dsimp only [Act.put]
                 simp only [List.setIfInBounds_toArray, List.set_cons_zero, List.set_cons_succ])
              | (quiet_step (fail))
          refine wpQuiet_nil ?_
          intro _ hw'
          obtain ⟨p, rfl⟩ := hw'
          simp only [List.drop_succ_cons, List.drop_zero]
          have hbp := p.below
          generalize p.world = v6p at hbp ⊢
          go_wp2_with fail
          refine (ST.out few v6p (HBW4.out.trans (hbp.mono HBW4.out.size)) ab cb lb m (some ⟨gb, 0, none⟩) 16 xR 16 (HRB3.out.below hbp) HLB.out (HFR2.out.below hbp) HLY.out).mono ?_
          rintro e v6 ⟨⟨nb, ncb⟩, rfl, hrow, hb⟩
          have hbc := hbp.trans (hb.mono hbp.size)
          clear hb hbp
          dsimp only [Tab.Sl.val]
          have HR6 := Lib.hid (HR5.out.below hbc)
          have HR7 := Lib.hid hrow
          have HBW6 := Lib.hid (HBW4.out.trans (hbc.mono HBW4.out.size))
          have HEQ2 : Hid (∀ d, d < n → d ≠ k → (dts ds la xS).getD d zCh = (dts ds lb xR).getD d zCh) := Lib.hid (fun d h1 h2 => by rw [dts_getD (by rw [HN.out]; exact h1), dts_getD (by rw [HN.out]; exact h1), HEQ.out d h1 h2, HXS.out d h1 h2])
          have HL5 : Hid ((dts ds la xS).length = n) := Lib.hid (by rw [dts_len, HN.out])
          have HL6 : Hid ((dts ds lb xR).length = n) := Lib.hid (by rw [dts_len, HN.out])
          clear hbc hrow HFR2 HRB3 HBW4 HR5 HLX HLY HXS HEQ HLA HLB BUW
          generalize dts ds la xS = la2 at HR6 HEQ2 HL5
          generalize dts ds lb xR = lb2 at HR7 HEQ2 HL6
          have k113 := Q113.out v6 HBW6.out
          go_wp2_with fail
          clear k113
          go_loopw [17] (fun i wx => ∃ (d : Nat), d ≤ n ∧ i = .int .i64 d ∧ Below v6.heap.size v6 wx) (fun i _ => n - (intOf i).toNat)
          case atStart => exact ⟨0, by omega, rfl, Below.refl _ _⟩
          case round =>
            obtain ⟨d, hd, rfl, hB⟩ := hrel
            have HB6 := Lib.hid hB
            clear hB
            by_cases hdn : d < n
            · by_cases hdk : d = k
              · have hbk : ((d : Int) != (k : Int)) = false := by rw [hdk]; exact bne_self_eq_false _
                clear hdk
                go_upto_region 24 with fail
                refine QB.region_below wr.heap.size (by kernel_rfl) (by kernel_rfl) ?_
                repeat (go_big_quiet_step (fail))
                refine wpQuiet_nil ?_
                intro _ hw'
                obtain ⟨p, rfl⟩ := hw'
                have HB7 := Lib.hid (HB6.out.trans (p.below.mono HB6.out.size))
                generalize p.world = vx at HB7 ⊢
                clear HB6
                go_wp2
                go_roundw
                case rel => exact ⟨d + 1, by omega, by go_num, HB7.out⟩
                case measure => simp [intOf]; omega
              · have hbk : ((d : Int) != (k : Int)) = true := by rw [bne_iff_ne]; omega
                obtain ⟨cc, hcc⟩ : ∃ cc, la2.getD d zCh = cc := ⟨_, rfl⟩
                have hc1 : la2[d]? = some cc := by rw [← hcc, List.getD_eq_getElem?_getD, List.getElem?_eq_getElem (by rw [HL5.out]; exact hdn)]; rfl
                have hc2 : lb2[d]? = some cc := by rw [← hcc, HEQ2.out d hdn hdk, List.getD_eq_getElem?_getD, List.getElem?_eq_getElem (by rw [HL6.out]; exact hdn)]; rfl
                obtain ⟨y, hy, hly⟩ := HR6.out.at hc1
                obtain ⟨z, hz, hlz⟩ := HR7.out.at hc2
                have hy : na = some y := hy
                have hz : nb = some z := hz
                subst hy hz
                clear hdk hcc hc1 hc2
                have HYY : Hid (∀ w', (∃ p : QB.By wr.heap.size wr, w' = p.world) → Lies w' (y.add (d * 7)) cc.cells) := Lib.hid (fun w' ⟨p, e⟩ => by rw [e]; exact Lies.below hly (HB6.out.trans (p.below.mono HB6.out.size)))
                have HZZ : Hid (∀ w', (∃ p : QB.By wr.heap.size wr, w' = p.world) → Lies w' (z.add (d * 7)) cc.cells) := Lib.hid (fun w' ⟨p, e⟩ => by rw [e]; exact Lies.below hlz (HB6.out.trans (p.below.mono HB6.out.size)))
                have HEE : Hid (∀ w, (Op.equalIn 10000 63 (.agg cc.cells.toArray) (.agg cc.cells.toArray)).run Try.prog w = .ok true w) := Lib.hid (by have := ch_eqs cc cc; rwa [decide_eq_true rfl] at this)
                have IC : (Try.prog.info? 63).map (·.size) = some cc.cells.length := infoC
                clear hly hlz
                generalize cc.cells = cs at HYY HZZ HEE IC
                clear cc
                go_upto_region 24 with fail
                refine QB.region_below wr.heap.size (by kernel_rfl) (by kernel_rfl) ?_
                repeat first
                  | (refine wpQuiet_load (by rfl) 63 _ rfl (y.add (d * 7)) rfl cs _ HYY.out Try.underlying63 rfl IC ?_
                     dsimp only [Act.put]
                     simp only [List.setIfInBounds_toArray, List.set_cons_zero, List.set_cons_succ])
                  | (refine wpQuiet_load (by rfl) 63 _ rfl (z.add (d * 7)) rfl cs _ HZZ.out Try.underlying63 rfl IC ?_
                     dsimp only [Act.put]
                     simp only [List.setIfInBounds_toArray, List.set_cons_zero, List.set_cons_succ])
                  | (refine wpQuiet_neq (by rfl) 63 _ _ _ rfl cs.toArray cs.toArray rfl rfl guardC true HEE.out ?_
                     dsimp only [Act.put]
                     simp only [List.setIfInBounds_toArray, List.set_cons_zero, List.set_cons_succ])
                  | (go_big_quiet_step (fail))
                refine wpQuiet_nil ?_
                intro _ hw'
                obtain ⟨p, rfl⟩ := hw'
                have HB7 := Lib.hid (HB6.out.trans (p.below.mono HB6.out.size))
                generalize p.world = vx at HB7 ⊢
                clear HB6
                go_wp2
                go_roundw
                case rel => exact ⟨d + 1, by omega, by go_num, HB7.out⟩
                case measure => simp [intOf]; omega
            · obtain rfl : d = n := by omega
              have HR8 := Lib.hid (HR6.out.below HB6.out)
              have HR9 := Lib.hid (HR7.out.below HB6.out)
              have HBW8 := Lib.hid (HBW6.out.trans (HB6.out.mono HBW6.out.size))
              clear HB6 HR6 HR7 HBW6
              go_wp2
              go_roundw
              case rel => exact ⟨q + 1, d, la2, lb2, na, nb, nca, ncb, by omega, by go_num, rfl, rfl, HL5.out, HL6.out, HR8.out, HR9.out, HEQ2, HBW8.out⟩
              case measure => simp [intOf]; omega
    · clear HEQ HRA HRB HLA HLB
      obtain rfl : q = len1 := by omega
      go_wp2_with fail
      refine (Dtc.awake_any _).mono ?_
      rintro e u9 ⟨rfl, b9⟩
      have BF := Lib.hid (A0.out.trans ((HBW.out.trans (b9.mono HBW.out.size)).mono A0.out.size))
      clear b9
      go_wp2
      go_ret
      exact ⟨rfl, BF.out⟩
/-! ### the row's step -/
theorem lifted (os : Os) (started : os.Started) (H : Type) (enc : TypeId × Value → H) :
    ReturnsInHanded {} Try.checked os 6 .any (Rows.detectApartSpec.pre6 enc Try.prog Try.f6 Rows.detectApartRow.domain false) (Rows.detectApartSpec.post enc Try.prog Try.f6 false true false false) := by
  refine returnsInHanded_of_change (C := Try.checked) own started (by kernel_rfl) Try.func6
    (ChangeSpec.witness6 (enc := enc) (C := Try.checked) false ⟨#[], #[.slice none 0 0, .slice none 0 0, .int .i64 0, .float .f64 0], []⟩ 8 (by kernel_rfl) (by kernel_rfl) (by kernel_rfl) (by kernel_rfl)) ?_
  intro W base args ds gs before hval0 hW hcnd _
  have hval : ∀ (j : Nat) t v, Try.f6.params[j]? = some t → args[j]? = some v → Value.okWide Try.prog W .any base t v := hval0
  have hW' := hW
  obtain ⟨p, q, hA0, hV, rfl, hfz, hnd⟩ := hW
  have hA : DataW.TrodAll enc Try.prog W 0 (fun _ => true) true Try.f6.params.toList args.toList ds p := hA0
  rw [Try.params6] at hA hval
  obtain ⟨v0, vs0, d0, ds0, p0, q0, hargs, rfl, rfl, h0, r0⟩ := trodAll_cons hA
  obtain ⟨v1, vs1, d1, ds1, p1, q1, rfl, rfl, rfl, h1, r1⟩ := trodAll_cons r0
  obtain ⟨v2, vs2, d2, ds2, p2, q2, rfl, rfl, rfl, h2, r2⟩ := trodAll_cons r1
  obtain ⟨v3, vs3, d3, ds3, p3, q3, rfl, rfl, rfl, h3, r3⟩ := trodAll_cons r2
  obtain ⟨rfl, rfl, rfl⟩ := trodAll_nil r3
  obtain rfl : args = #[v0, v1, v2, v3] := by cases args; simp_all
  obtain ⟨rfl, rfl⟩ := trodVars_none hV
  obtain ⟨a0, len0, cap0, rfl⟩ := okWide_slice Try.underlying40 (hval 0 40 v0 rfl rfl)
  have k0 := h0
  have lt0 : ∀ x ∈ p0, x.block < W.heap.size := by obtain ⟨m, hm⟩ := k0; exact DataW.trod_lt m _ _ _ hm
  obtain ⟨z0, w0⟩ : ∃ zs, IsRow .i64 W a0 len0 cap0 zs := by
    obtain ⟨fuel, hf⟩ := h0
    rcases open_ints Try.underlying40 Try.underlying3 (by kernel_rfl) hf with ⟨hcs, _⟩ | ⟨x, l, c, zs, hcs, _, hl, hm, hz, _, hcell, hwz⟩
    · simp [Value.cells] at hcs
      obtain ⟨rfl, rfl, rfl⟩ := hcs
      exact ⟨[], .inl ⟨rfl, rfl, rfl, rfl⟩⟩
    · simp [Value.cells] at hcs
      obtain ⟨rfl, rfl, rfl⟩ := hcs
      exact ⟨zs, .inr ⟨_, rfl, hl, hm, by simpa using hz, hcell, hwz⟩⟩
  obtain ⟨a1, len1, cap1, rfl⟩ := okWide_slice Try.underlying33 (hval 1 33 v1 rfl rfl)
  have k1 := h1
  have lt1 : ∀ x ∈ p1, x.block < W.heap.size := by obtain ⟨m, hm⟩ := k1; exact DataW.trod_lt m _ _ _ hm
  obtain ⟨z1, w1⟩ : ∃ zs, Recs.IsFlts W a1 len1 cap1 zs := by
    obtain ⟨fuel, hf⟩ := h1
    exact Recs.open_flts Try.underlying33 Try.underlying47 (by kernel_rfl) hf
  obtain ⟨a2, rfl, rfl, rfl, w2⟩ := open_int Try.underlying3 (hval 2 3 v2 rfl rfl) h2
  obtain ⟨a3, rfl, rfl, rfl, w3⟩ := open_float Try.underlying47 (hval 3 47 v3 rfl rfl) h3
  clear hA0 hval0
  refine (walk a0 len0 cap0 z0 a1 len1 cap1 z1 a2 a3 W w0 w1 w2 w3).mono fun e W' ⟨he, bel⟩ => ?_
  subst he
  exact ⟨_, rfl, _, _, _, [], _, [], hW', trodAll_mk1 (shut_bool Try.underlying4 _), (trodAll_cons_mk (Below.trod laidOut (by kernel_rfl) (of_decide_eq_true (by kernel_rfl)) k0 bel lt0) (trodAll_cons_mk (Below.trod laidOut (by kernel_rfl) (of_decide_eq_true (by kernel_rfl)) k1 bel lt1) (trodAll_cons_mk (shut_int Try.underlying3 w2) (trodAll_cons_mk (shut_float Try.underlying47 w3) trodAll_mk0)))), rfl, bel.frame _, fun h => by cases h⟩
theorem over : Rows.detectApartRow.holds Try.pinned (OpenSpec.ofChange Rows.detectApartSpec) :=
  OpenClaim.holds_of_wide 6 Try.f6 rfl rfl rfl rfl rfl rfl rfl ⟨rfl, rfl, rfl, rfl, rfl⟩ rfl rfl rfl rfl rfl (by kernel_rfl) Try.func6 (by kernel_rfl)
    (of_decide_eq_true (by kernel_rfl)) (by unfold Func.isWrapper; first | (rw [if_pos (by decide +kernel)]; kernel_rfl) | (rw [if_neg (by decide +kernel)]; exact ⟨rfl, rfl⟩))
    (fun os started H enc _ => lifted os started H enc)
/-- the statement -/
theorem proved : Rows.DetectApartSaid :=
  over
#print axioms proved
end detectApart
end Go.Proofs.Ytbmcendlpeaaeaa
