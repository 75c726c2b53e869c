/- PhaseLong returns true at any numbers of a table, any place, any row of cars and any hold: a green for which others wait all the time is Done in time. No condition. -/
import Derived.Test.YtbpfknkbiaplpaaRows
import Derived.Test.YtbpfknkbiaplpaaPart05
import Derived.Test.YtbpfknkbiaplpaaPart01
import Derived.Deep.Cut
import Derived.LoopTactic
import Derived.BigQuiet
import Derived.Test.YtbpfknkbiaplpaaPart09
import Derived.Test.YtbpfknkbiaplpaaPart10
import Derived.Deep.CutRange
import Derived.WalkKit
import Derived.WalkLawsBesides
import Derived.ProofKit
import Derived.OpenShut
import Derived.ShutString
import Derived.ChangeOld
import Derived.Below
set_option linter.unusedVariables false
set_option linter.unusedSimpArgs false
set_option linter.unusedSectionVars false
set_option maxHeartbeats 8000000
set_option maxRecDepth 100000
namespace Go.Proofs.Ytbpfknkbiaplpaa
namespace phaseLong
open Go.ChangeShapes Go.WideShapes Go.ChangeAt Go.RowKit
open Tab Ru QL
open May (infoP)
open Ped (infoFt)
open Gap (infoTn)
open GenT (genTab)
theorem own : ownKnob Try.prog.godebug = none := by kernel_rfl
theorem laidOut : laidOutB Try.prog = true := by kernel_rfl
/-- WHAT THE WALK IS TOLD OF A SLICE OF INTEGERS THAT CAME IN: it is nil; or it leads to a row of 'cap' cells, the numbers 'zs' (the first 'len' are its elements, the rest its spare room), each fitting its kind. -/
def IsRow (k : IntKind) (w : World) (a : Option Addr) (len cap : Nat) (zs : List Int) : Prop :=
  (a = none ∧ len = 0 ∧ cap = 0 ∧ zs = []) ∨
  ∃ x, a = some x ∧ len ≤ cap ∧ cap ≤ maxLen ∧ zs.length = cap ∧ (∀ i, i < zs.length → w.cell? (x.add i) = some (.int k (zs.getD i 0))) ∧ ∀ n ∈ zs, (Lit.int k n).wf = true
theorem isRow_int {w : World} {a : Option Addr} {len cap : Nat} {zs : List Int} (h : IsRow .i64 w a len cap zs) : (zs.take len).length = len ∧ Tab.IntRow w ⟨a, cap⟩ (zs.take len) := by
  rcases h with ⟨rfl, rfl, rfl, rfl⟩ | ⟨x, rfl, h1, h2, h3, h4, _⟩
  · exact ⟨rfl, .inl ⟨rfl, rfl, rfl⟩⟩
  · have hl : (zs.take len).length = len := by rw [List.length_take]; omega
    refine ⟨hl, .inr ⟨x, rfl, by rw [hl]; exact h1, h2, fun i v hv j u hu => ?_⟩⟩
    have hi : i < len := by have := (List.getElem?_eq_some_iff.1 hv).1; omega
    match j, hu with
    | 0, hu =>
      simp at hu
      subst hu
      rw [List.getElem?_take, if_pos hi] at hv
      have := h4 i (by omega)
      rw [List.getD_eq_getElem?_getD, hv] at this
      rw [Nat.mul_one, Tab.add_two, Nat.add_zero]
      exact this
    | j + 1, hu => simp at hu
/-- Those on foot at tick q of a walk of k ticks and l that blink. -/
def stt (k l q : Int) : Ped.Ft := if q ≤ k then ⟨1, q⟩ else if q ≤ k + l then ⟨2, q - k⟩ else ⟨0, 0⟩
theorem stt_step {p : Ph} {k l q : Int} (hK : (k = 0 ∧ l = 0) ∨ (k = p.walk ∧ l = p.blinks ∧ 1 ≤ k ∧ k ≤ 10 ∧ 1 ≤ l ∧ l ≤ 10)) (h1 : 1 ≤ q) (h2 : q ≤ 1000) : Ped.ft p.walk p.blinks (stt k l q).st (stt k l q).tm false = stt k l (q + 1) := by
  have h0 : Ped.ft p.walk p.blinks 0 0 false = ⟨0, 0⟩ := by unfold Ped.ft; rw [if_neg (by decide), if_neg (by decide), if_neg (by simp)]
  rcases hK with ⟨rfl, rfl⟩ | ⟨rfl, rfl, h3, h4, h5, h6⟩
  · unfold stt
    rw [if_neg (by omega), if_neg (by omega), if_neg (by omega), if_neg (by omega)]
    exact h0
  · unfold stt
    by_cases c1 : q ≤ p.walk
    · rw [if_pos c1]
      unfold Ped.ft
      dsimp only
      rw [if_pos rfl, Cnt.more_in (by omega) (by omega)]
      by_cases c2 : p.walk ≤ q
      · obtain rfl : q = p.walk := by omega
        rw [if_pos c2, if_neg (by omega), if_pos (by omega)]
        congr 1; omega
      · rw [if_neg c2, if_pos (by omega)]
    · rw [if_neg c1, if_neg (show ¬ q + 1 ≤ p.walk by omega)]
      by_cases c3 : q ≤ p.walk + p.blinks
      · rw [if_pos c3]
        unfold Ped.ft
        dsimp only
        rw [if_neg (by decide), if_pos rfl, Cnt.more_in (by omega) (by omega)]
        by_cases c2 : p.blinks ≤ q - p.walk
        · rw [if_pos c2, if_neg (by omega)]
        · rw [if_neg c2, if_pos (by omega)]
          congr 1; omega
      · rw [if_neg c3, if_neg (by omega)]
        exact h0
/-- What is known ahead of tick i. -/
def Kv (p : Ph) (k l h mo i : Int) (D : Ru) : Prop := (D.dn = true ∧ D.ex ≤ h ∧ D.tm ≤ i) ∨ (D.dn = false ∧ D.co = 1 ∧ D.tm = i ∧ D.pr = i - 1 ∧ 0 ≤ D.ex ∧ D.ex ≤ h ∧ i - mo ≤ D.ex ∧ D.fs = (stt k l i).st ∧ D.ft = (stt k l i).tm ∧ D.tl = p.max)
theorem tickL {p : Ph} {k l h mo i : Int} {D : Ru} (hp : GenQ.Rng p) (hK : (k = 0 ∧ l = 0) ∨ (k = p.walk ∧ l = p.blinks ∧ 1 ≤ k ∧ k ≤ 10 ∧ 1 ≤ l ∧ l ≤ 10)) (m1 : p.min ≤ mo) (m2 : k + l ≤ mo) (m3 : p.max ≤ mo) (m4 : mo ≤ 100) (h0 : 0 ≤ h) (h1 : h < 20) (i1 : 1 ≤ i) (i2 : i ≤ mo + h) (hd : D.dn = false) (hv : Kv p k l h mo i D) (car push : Bool) :
    Kv p k l h mo (i + 1) (stp p D ⟨false, false, car, push, true, decide (D.ex < h), false, false⟩) := by
  rcases hv with ⟨e, _⟩ | ⟨_, hco, htm, hpr, e0, e1, e2, f1, f2, ht⟩
  · rw [hd] at e; cases e
  generalize hc : (⟨false, false, car, push, true, decide (D.ex < h), false, false⟩ : Cu) = c
  have hps : c.ps = true := by rw [← hc]
  have hen : c.en = false := by rw [← hc]
  have hkt : c.kt = false := by rw [← hc]
  have hho : c.ho = decide (D.ex < h) := by rw [← hc]
  have es : stp p D c = sty p c (lon p D c) := by unfold stp; rw [if_pos hco, hen]; rfl
  rw [es]
  have hf : fooA p D c = stt k l (i + 1) := by
    unfold fooA
    rw [hkt, hps, if_neg (by simp), f1, f2]
    have := stt_step (p := p) hK i1 (by omega)
    rw [← this]
    cases c.pu <;> rfl
  have n1 : (lon p D c).tm = i + 1 := by show Cnt.more D.tm = _; rw [htm, Cnt.more_in (by omega) (by omega)]
  have n2 : (lon p D c).pr = i := by show (if c.ps then Cnt.more D.pr else D.pr) = _; rw [hps, if_pos rfl, hpr, Cnt.more_in (by omega) (by omega)]; omega
  have n3 : (lon p D c).dn = false := by show (D.dn && _) = false; rw [hd]; rfl
  have n4 : (lon p D c).fs = (stt k l (i + 1)).st := by show (fooA p D c).st = _; rw [hf]
  have n5 : (lon p D c).ft = (stt k l (i + 1)).tm := by show (fooA p D c).tm = _; rw [hf]
  have n6 : (lon p D c).co = 1 := hco
  have n7 : (lon p D c).ex = D.ex := rfl
  have n8 : (lon p D c).tl = p.max := ht
  have hlm : Gap.lm p p.max = p.max := by unfold Gap.lm; have := hp.top; rw [if_neg (by omega), if_neg (by omega)]
  have hu : mo ≤ i → duB p c (lon p D c) = true := by
    intro hi
    have hs : stt k l (i + 1) = ⟨0, 0⟩ := by
      unfold stt
      rcases hK with ⟨rfl, rfl⟩ | ⟨_, _, h3, h4, h5, h6⟩
      · rw [if_neg (by omega), if_neg (by omega)]
      · rw [if_neg (by omega), if_neg (by omega)]
    unfold duB fuB
    rw [hps, n3, n1, n4, n8, n2, hlm, hs]
    simp only [decide_eq_true (show p.min ≤ i + 1 by omega), decide_eq_true (show p.max ≤ i by omega)]
    simp [Ped.idl]
  generalize lon p D c = n at n1 n2 n3 n4 n5 n6 n7 n8 hu ⊢
  unfold sty
  cases hdu : duB p c n
  · rw [if_neg (by simp)]
    have : i < mo := by
      rcases Int.lt_or_le i mo with h | h
      · exact h
      · rw [hu h] at hdu; cases hdu
    exact .inr ⟨n3, n6, n1, by rw [n2]; omega, by rw [n7]; exact e0, by rw [n7]; exact e1, by rw [n7]; omega, n4, n5, n8⟩
  · rw [if_pos rfl, hho]
    by_cases hx : D.ex < h
    · rw [decide_eq_true hx, if_pos rfl]
      have e3 : Cnt.more n.ex = D.ex + 1 := by rw [n7, Cnt.more_in (by omega) (by omega)]
      exact .inr ⟨n3, n6, n1, by show n.pr = _; rw [n2]; omega, by show 0 ≤ Cnt.more n.ex; omega, by show Cnt.more n.ex ≤ h; omega, by show _ ≤ Cnt.more n.ex; omega, n4, n5, n8⟩
    · rw [decide_eq_false hx, if_neg (by simp)]
      exact .inl ⟨rfl, by show n.ex ≤ h; omega, by show n.tm ≤ _; omega⟩
/-! ### the walk -/
theorem walk (a0 : Option Addr) (len0 cap0 : Nat) (z0 : List Int) (a1 : Int) (a2 : Bool) (s3 : Tab.Sl) (l3 : List Bool) (a4 : Int) (w : World) (w0 : IsRow .i64 w a0 len0 cap0 z0) (w1 : (Lit.int .i64 a1).wf = true) (w3 : Tab.RowOf 1 (fun b : Bool => [Value.bool b]) w s3 l3) (w4 : (Lit.int .i64 a4).wf = true) :
    Calls Try.prog 7 #[.slice a0 len0 cap0, .int .i64 a1, .bool a2, .slice s3.a l3.length s3.cap, .int .i64 a4] w fun e w' => e = .returned (.bool true) ∧ Below w.heap.size w w' := by
  obtain ⟨x, z, hA, hl1, hc1⟩ := Arg.bools_at w3
  obtain ⟨sa, cap⟩ := s3
  dsimp only at hA hl1 hc1 ⊢
  generalize l3.length = len at hA hl1 ⊢
  have HA := Lib.hid hA
  unfold maxLen at hc1
  clear hA w3
  obtain ⟨hlen, hrow⟩ := isRow_int w0
  obtain ⟨L, hL⟩ : ∃ L, L = z0.take len0 := ⟨_, rfl⟩
  rw [← hL] at hlen hrow
  clear hL w0
  subst hlen
  have hz := (zero_of_info GenT.infoTz).1
  have hZs : (Clone.zTab.cells Clone.zHd).length = 131 := rfl
  generalize hZ : GenT.zTab.cells GenT.zHd = Z at *
  have ZS : Z.toArray.size = 131 := by rw [← hZ]; rfl
  clear hZ hZs
  have GF : Hid (∀ k : Nat, k < 8 → (Clear.phAt (genTab L) k).on = true → GenQ.Rng (Clear.phAt (genTab L) k)) := Lib.hid (GenQ.gen_rng L)
  go_enter Try.func7, Try.ntmps7
  go_wp2_with fail
  refine (GenT.table_any a0 cap0 L w hrow).mono ?_
  rintro e u0 ⟨hd, rfl, ht, hb⟩
  have CS := GenT.cells_cut hd ht.ph ht.cf ht.fl
  have ONE := (cells_ok ht).one
  have T8 := Lib.hid ht.ph
  have HT : Hid (∀ W, Below u0.heap.size u0 W → IsTab W hd (genTab L)) := Lib.hid (fun W hb => ht.below hb)
  have B0 := Lib.hid hb
  have IA : Hid ((Try.prog.info? 45).map (·.size) = some ((genTab L).cells hd).length) := Lib.hid (by rw [CS]; exact May.infoT)
  clear hb ht
  generalize hc : (genTab L).cells hd = c at *
  have HC := Lib.hid hc
  clear hc
  go_upto_region 2 with (refine Row.wpList_store_new rfl 45 _ _ rfl u0 Z.toArray c.toArray rfl rfl rfl (by rw [List.size_toArray]; exact IA.out) (by rw [ZS, List.size_toArray, CS]) ONE ?_)
  have hb2 : Below u0.heap.size u0 (u0.alloc (.cells c.toArray 45)) := (Below.refl _ _).alloc (Nat.le_refl _) _
  have hl : Lies (u0.alloc (.cells c.toArray 45)) ⟨u0.heap.size, 0, none⟩ c := Row.lies_new _ _ _
  have TB0 : Hid (∀ W, Below (u0.alloc (.cells c.toArray 45)).heap.size (u0.alloc (.cells c.toArray 45)) W → IsTab W hd (genTab L)) := Lib.hid (fun W hb => HT.out W (hb2.trans (hb.mono hb2.size)))
  generalize u0.alloc (.cells c.toArray 45) = u at hb2 hl TB0 ⊢
  have TB : Hid (∀ W, Below u.heap.size u W → IsTab W hd (genTab L)) := TB0
  have A0 : Hid (Below w.heap.size w u) := Lib.hid (B0.out.trans (hb2.mono B0.out.size))
  have A1 : Hid (∀ W, Below u.heap.size u W → Lies W ⟨u0.heap.size, 0, none⟩ c) := Lib.hid (fun W hb => Lies.below hl hb)
  clear hb2 hl TB0 HT B0 hrow hz ZS ONE CS
  generalize u0.heap.size = tb at *
  generalize genTab L = T at *
  obtain ⟨k, hk⟩ : ∃ k : Nat, a1 % 8 = (k : Int) := ⟨(a1 % 8).toNat, by have := Int.emod_nonneg a1 (show (8 : Int) ≠ 0 by decide); omega⟩
  have hk8 : k < 8 := by have := Int.emod_lt_of_pos a1 (show (0 : Int) < 8 by decide); omega
  have PL : Hid (∀ W, Calls Try.prog 18 #[.int .i64 a1, .int .i64 8] W fun e w' => e = .returned (.int .i64 k) ∧ W = w') := Lib.hid (fun W => by have := RefS.place_any a1 8 W (by decide) (by decide); rwa [hk] at this)
  have KK := Lib.hid hk8
  clear hk
  have LP : Lies u ⟨tb, k * 13, none⟩ (Clear.phAt T k).cells := by
    have h := A1.out u (Below.refl _ _)
    rw [← HC.out] at h
    intro j v hj
    have := h (k * 13 + j) v (GenQ.cells_at (TB.out u (Below.refl _ _)) KK.out hj)
    rw [Addr.add_mid, Nat.zero_add] at this
    rwa [Addr.add_mid]
  have PG := Lib.hid (GF.out k hk8)
  generalize hph : Clear.phAt T k = p at LP PG
  clear hph GF
  have LP0 := Lib.hid LP
  clear LP
  have IP : (Try.prog.info? 23).map (·.size) = some p.cells.length := infoP
  go_upto_region 3 with (first | (go_at_call 18; refine (PL.out _).mono ?_; rintro e w' ⟨rfl, rfl⟩) | (refine Row.wpList_load_lies rfl 23 _ rfl ⟨tb, k * 13, none⟩ rfl p.cells _ LP0.out Try.underlying23 rfl IP ?_) | (refine Row.wpList_store_new rfl 23 _ _ rfl _ _ p.cells.toArray rfl rfl rfl May.infoP rfl (Ph.one _) ?_))
  dsimp only [Act.put]
  (try simp only [List.setIfInBounds_toArray, List.set_cons_zero, List.set_cons_succ])
  have h1 := (Blk.Bks.nil u).alloc p.cells.toArray 23
  generalize World.alloc u _ = v1 at h1 ⊢
  generalize u.heap.size = gx at h1 ⊢
  have H1 := Lib.hid h1
  clear h1 LP0 PL KK HC TB T8 IA A1 hk8 IP
  obtain ⟨B, hB⟩ : ∃ D, bgn p = D := ⟨_, rfl⟩
  obtain ⟨D0, hD0⟩ : ∃ D, stp p B ⟨true, false, false, a2, false, false, false, false⟩ = D := ⟨_, rfl⟩
  obtain ⟨h, hh⟩ : ∃ h, a4 % 20 = h := ⟨_, rfl⟩
  have h0 : 0 ≤ h := by omega
  have h20 : h < 20 := by omega
  have PL2 : Hid (∀ W, Calls Try.prog 18 #[.int .i64 a4, .int .i64 20] W fun e w' => e = .returned (.int .i64 h) ∧ W = w') := Lib.hid (fun W => by have := RefS.place_any a4 20 W (by decide) (by decide); rwa [hh] at this)
  clear hh
  have F5 : Hid (∀ W, Calls Try.prog 15 #[.agg p.cells.toArray] W fun e w' => e = .returned (.agg B.cells.toArray) ∧ Below W.heap.size W w') := Lib.hid (fun W => by rw [← hB]; exact begin_any p W)
  have S0 : Hid (∀ W, Calls Try.prog 11 #[.agg p.cells.toArray, .agg B.cells.toArray, .agg (Cu.cells ⟨true, false, false, a2, false, false, false, false⟩).toArray] W fun e w' => e = .returned (.agg D0.cells.toArray) ∧ Below W.heap.size W w') := Lib.hid (fun W => by rw [← hD0]; exact step_any p B ⟨true, false, false, a2, false, false, false, false⟩ W)
  have k0 : v1.cell? ⟨gx, 0, none⟩ = some (.bool p.on) := H1.out.cell 0 0 rfl rfl
  generalize hon : p.on = on at k0
  by_cases hl : 400 < len
  · have hl2 : decide ((len : Int) > 400) = true := decide_eq_true (by omega)
    cases on
    · go_wp2_with fail
      refine (awake_any _).mono ?_
      rintro e u9 ⟨rfl, b9⟩
      go_wp2
      go_ret
      exact ⟨rfl, A0.out.trans ((H1.out.step b9).bel.mono A0.out.size)⟩
    · go_wp2_with fail
      refine (awake_any _).mono ?_
      rintro e u9 ⟨rfl, b9⟩
      go_wp2
      go_ret
      exact ⟨rfl, A0.out.trans ((H1.out.step b9).bel.mono A0.out.size)⟩
  have hl2 : decide ((len : Int) > 400) = false := decide_eq_false (by omega)
  cases on
  · go_wp2_with fail
    refine (awake_any _).mono ?_
    rintro e u9 ⟨rfl, b9⟩
    go_wp2
    go_ret
    exact ⟨rfl, A0.out.trans ((H1.out.step b9).bel.mono A0.out.size)⟩
  have PG2 := Lib.hid (PG.out hon)
  clear hon PG
  obtain ⟨k1, hk1⟩ : ∃ x, (if a2 = true then p.walk else 0) = x := ⟨_, rfl⟩
  obtain ⟨l1, hl1'⟩ : ∃ x, (if a2 = true then p.blinks else 0) = x := ⟨_, rfl⟩
  have HKL : Hid ((k1 = 0 ∧ l1 = 0) ∨ (k1 = p.walk ∧ l1 = p.blinks ∧ 1 ≤ k1 ∧ k1 ≤ 10 ∧ 1 ≤ l1 ∧ l1 ≤ 10)) := Lib.hid (by
    rw [← hk1, ← hl1']
    cases a2
    · exact .inl ⟨if_neg (by simp), if_neg (by simp)⟩
    · rw [if_pos rfl, if_pos rfl]
      rcases PG2.out.walk with h | h
      · exact .inl h
      · exact .inr ⟨rfl, rfl, h.1, h.2.1, h.2.2.1, h.2.2.2⟩)
  obtain ⟨mo, hmo⟩ : ∃ x, max p.min (max (p.walk + p.blinks) p.max) = x := ⟨_, rfl⟩
  have HMO : Hid (p.min ≤ mo ∧ k1 + l1 ≤ mo ∧ p.max ≤ mo ∧ mo ≤ 100) := Lib.hid (by
    have r1 := PG2.out.min
    have r2 := PG2.out.max
    have r3 := PG2.out.walk
    rw [← hmo, ← hk1, ← hl1']
    cases a2 <;> simp <;> omega)
  have HK0 : Hid (Kv p k1 l1 h mo 1 D0) := Lib.hid (by
    rw [← hD0, ← hB]
    have hs : stt k1 l1 1 = Ped.ft p.walk p.blinks 0 0 a2 := by
      rw [← hk1, ← hl1']
      unfold stt Ped.ft
      have r3 := PG2.out.walk
      cases a2
      · simp
      · simp
        rcases r3 with h | h
        · rw [if_neg (by omega), if_neg (by omega), if_neg (by omega)]
        · rw [if_pos (by omega), if_pos (by omega)]
    have hm := HMO.out
    have r1 := PG2.out.min
    exact .inr ⟨rfl, rfl, rfl, rfl, by show (0 : Int) ≤ 0; omega, h0, by show 1 - mo ≤ 0; omega, by rw [hs]; rfl, by rw [hs]; rfl, rfl⟩)
  have r1 := PG2.out.min
  have r2 := PG2.out.max
  have r3 := PG2.out.walk
  clear hk1 hl1' hB hD0
  go_upto_region 6 with (go_at_call 18; refine (PL2.out _).mono ?_; rintro e w' ⟨rfl, rfl⟩)
  clear PL2 k0
  (try dsimp only [Act.put]); (try simp only [List.setIfInBounds_toArray, List.set_cons_zero, List.set_cons_succ])
  go_cut [14] from 36 (fun tx wx => ∃ g, tx = .pointer (some ⟨g, 0, none⟩) ∧ Blk.Bks u ((g, D0.cells.toArray, 29) :: [(gx, p.cells.toArray, 23)]) wx)
  case first =>
    refine wp_region_held (S := fun w' => Below v1.heap.size v1 w') (by kernel_rfl) ?_
    have hS : Below v1.heap.size v1 { v1 with drawn := v1.drawn + 1 } := (Below.refl _ _).drew
    generalize ({ v1 with drawn := v1.drawn + 1 } : World) = v at hS ⊢
    refine Held.take_load (i := 0) (some 36) rfl 23 (.tmp 12) ⟨gx, 0, none⟩ p.cells _ rfl rfl (by kernel_rfl) (by kernel_rfl) (by kernel_rfl) (fun _ _ _ h => h) (by rfl) hS rfl (fun w' hw' => seg (H1.out.step hw') 0 0 rfl _ rfl) Try.underlying23 rfl infoP ?_
    (try dsimp only [Act.put]); (try simp only [List.setIfInBounds_toArray, List.set_cons_zero, List.set_cons_succ])
    refine Held.take_load (i := 1) (some 37) rfl 23 (.tmp 12) ⟨gx, 0, none⟩ p.cells _ rfl rfl (by kernel_rfl) (by kernel_rfl) (by kernel_rfl) (fun _ _ _ h => h) (by rfl) hS rfl (fun w' hw' => seg (H1.out.step hw') 0 0 rfl _ rfl) Try.underlying23 rfl infoP ?_
    (try dsimp only [Act.put]); (try simp only [List.setIfInBounds_toArray, List.set_cons_zero, List.set_cons_succ])
    refine Held.take (i := 3) (some 39) rfl (v := ?_) rfl (by kernel_rfl) (by kernel_rfl) (by kernel_rfl) (fun _ _ _ h => h) (Or.inl ⟨by rfl, ?_⟩) hS ?_
    rotate_left
    · intro w' hw'
      go_simp
      try with_reducible rfl
    (try dsimp only [Act.put]); (try simp only [List.setIfInBounds_toArray, List.set_cons_zero, List.set_cons_succ])
    refine Held.take_build (i := 4) (some 40) rfl 31 #[(0, .const (.bool true)), (3, .tmp 39)] (Cu.cells ⟨true, false, false, a2, false, false, false, false⟩).toArray rfl rfl (by kernel_rfl) (by kernel_rfl) (by kernel_rfl) (fun _ _ _ h => h) (by rfl) hS (by have h := builtSP a2; first | (simp [Act.eval]; exact h) | (go_simp; exact h)) ?_
    (try dsimp only [Act.put]); (try simp only [List.setIfInBounds_toArray, List.set_cons_zero, List.set_cons_succ])
    refine wpAnyH_ready (rs := [2, 6]) (by kernel_rfl) (by simp) (AllReadyH.cons rfl (fun K hK => ?_) (AllReadyH.cons rfl (fun K hK => ?_) AllReadyH.nil))
    · go_simp
      refine (F5.out _).mono ?_
      rintro e vn ⟨rfl, hb⟩
      have hq := hS.trans (hb.mono hS.size)
      clear hS hb
      go_simp
      refine hK.out _ _ hq (fun hS => ?_)
      clear hK K hq
      rename World => v
      (try dsimp only [Act.put]); (try simp only [List.setIfInBounds_toArray, List.set_cons_zero, List.set_cons_succ])
      refine wpAnyH_ready (rs := [5, 6]) (by kernel_rfl) (by simp) (AllReadyH.cons rfl (fun K hK => ?_) (AllReadyH.cons rfl (fun K hK => ?_) AllReadyH.nil))
      · go_simp
        refine (S0.out _).mono ?_
        rintro e vn ⟨rfl, hb⟩
        have hq := hS.trans (hb.mono hS.size)
        clear hS hb
        go_simp
        refine hK.out _ _ hq (fun hS => ?_)
        clear hK K hq
        rename World => v
        (try dsimp only [Act.put]); (try simp only [List.setIfInBounds_toArray, List.set_cons_zero, List.set_cons_succ])
        refine wpAnyH_ready (rs := [6]) (by kernel_rfl) (by simp) (AllReadyH.cons rfl (fun K hK => ?_) AllReadyH.nil)
        go_simp
        have ha := (H1.out.step hS).alloc #[I 0, I 0, I 0, I 0, I 0, I 0, I 0, .bool false, .bool false, I 0, I 0, I 0] 29
        have HGE := Lib.hid hS.size
        have hq := hS.alloc hS.size (.cells #[I 0, I 0, I 0, I 0, I 0, I 0, I 0, .bool false, .bool false, I 0, I 0, I 0] 29)
        clear hS
        generalize v.heap.size = ga at ha HGE ⊢
        generalize World.alloc v _ = va at ha hq ⊢
        have HA := Lib.hid ha
        clear ha
        refine hK.out _ _ hq (fun hS => ?_)
        clear hK K hq
        rename World => v
        (try dsimp only [Act.put]); (try simp only [List.setIfInBounds_toArray, List.set_cons_zero, List.set_cons_succ])
        refine wpAnyH_ready (rs := [7]) (by kernel_rfl) (by simp) (AllReadyH.cons rfl (fun K hK => ?_) AllReadyH.nil)
        rw [if_pos (by rfl)]
        refine wp_store_row 29 _ _ rfl ga D0.cells.toArray rfl rfl 29 _ (HA.out.at 0 rfl) infoRu rfl (one_ru _) ?_
        have hq := below_setRow hS (g := ga) HGE.out D0.cells.toArray
        have hput := HA.out.put 0 rfl D0.cells.toArray
        simp only [List.set_cons_succ, List.set_cons_zero] at hput
        generalize World.setRow _ ga _ = vs at hput hq ⊢
        have HC := Lib.hid hput
        clear hput
        refine hK.out _ _ hq (fun hS => ?_)
        clear hK K hq
        (try simp only [List.getElem_toArray, List.getElem_cons_succ, List.getElem_cons_zero])
        (try dsimp only [Act.put]); (try simp only [List.setIfInBounds_toArray, List.set_cons_zero, List.set_cons_succ])
        refine wpAnyH_done (by kernel_rfl) ?_ _
        go_wp2_with fail
        go_meet
        case rel => exact ⟨ga, rfl, HC.out⟩
      · go_simp
        have ha := (H1.out.step hS).alloc #[I 0, I 0, I 0, I 0, I 0, I 0, I 0, .bool false, .bool false, I 0, I 0, I 0] 29
        have HGE := Lib.hid hS.size
        have hq := hS.alloc hS.size (.cells #[I 0, I 0, I 0, I 0, I 0, I 0, I 0, .bool false, .bool false, I 0, I 0, I 0] 29)
        clear hS
        generalize v.heap.size = ga at ha HGE ⊢
        generalize World.alloc v _ = va at ha hq ⊢
        have HA := Lib.hid ha
        clear ha
        refine hK.out _ _ hq (fun hS => ?_)
        clear hK K hq
        rename World => v
        (try dsimp only [Act.put]); (try simp only [List.setIfInBounds_toArray, List.set_cons_zero, List.set_cons_succ])
        refine wpAnyH_ready (rs := [5]) (by kernel_rfl) (by simp) (AllReadyH.cons rfl (fun K hK => ?_) AllReadyH.nil)
        go_simp
        refine (S0.out _).mono ?_
        rintro e vn ⟨rfl, hb⟩
        have hq := hS.trans (hb.mono hS.size)
        have HA2 := Lib.hid (HA.out.step hb)
        clear HA
        have HA := HA2
        clear HA2
        clear hS hb
        go_simp
        refine hK.out _ _ hq (fun hS => ?_)
        clear hK K hq
        rename World => v
        (try dsimp only [Act.put]); (try simp only [List.setIfInBounds_toArray, List.set_cons_zero, List.set_cons_succ])
        refine wpAnyH_ready (rs := [7]) (by kernel_rfl) (by simp) (AllReadyH.cons rfl (fun K hK => ?_) AllReadyH.nil)
        rw [if_pos (by rfl)]
        refine wp_store_row 29 _ _ rfl ga D0.cells.toArray rfl rfl 29 _ (HA.out.at 0 rfl) infoRu rfl (one_ru _) ?_
        have hq := below_setRow hS (g := ga) HGE.out D0.cells.toArray
        have hput := HA.out.put 0 rfl D0.cells.toArray
        simp only [List.set_cons_succ, List.set_cons_zero] at hput
        generalize World.setRow _ ga _ = vs at hput hq ⊢
        have HC := Lib.hid hput
        clear hput
        refine hK.out _ _ hq (fun hS => ?_)
        clear hK K hq
        (try simp only [List.getElem_toArray, List.getElem_cons_succ, List.getElem_cons_zero])
        (try dsimp only [Act.put]); (try simp only [List.setIfInBounds_toArray, List.set_cons_zero, List.set_cons_succ])
        refine wpAnyH_done (by kernel_rfl) ?_ _
        go_wp2_with fail
        go_meet
        case rel => exact ⟨ga, rfl, HC.out⟩
    · go_simp
      have ha := (H1.out.step hS).alloc #[I 0, I 0, I 0, I 0, I 0, I 0, I 0, .bool false, .bool false, I 0, I 0, I 0] 29
      have HGE := Lib.hid hS.size
      have hq := hS.alloc hS.size (.cells #[I 0, I 0, I 0, I 0, I 0, I 0, I 0, .bool false, .bool false, I 0, I 0, I 0] 29)
      clear hS
      generalize v.heap.size = ga at ha HGE ⊢
      generalize World.alloc v _ = va at ha hq ⊢
      have HA := Lib.hid ha
      clear ha
      refine hK.out _ _ hq (fun hS => ?_)
      clear hK K hq
      rename World => v
      (try dsimp only [Act.put]); (try simp only [List.setIfInBounds_toArray, List.set_cons_zero, List.set_cons_succ])
      refine wpAnyH_ready (rs := [2]) (by kernel_rfl) (by simp) (AllReadyH.cons rfl (fun K hK => ?_) AllReadyH.nil)
      go_simp
      refine (F5.out _).mono ?_
      rintro e vn ⟨rfl, hb⟩
      have hq := hS.trans (hb.mono hS.size)
      have HA2 := Lib.hid (HA.out.step hb)
      clear HA
      have HA := HA2
      clear HA2
      clear hS hb
      go_simp
      refine hK.out _ _ hq (fun hS => ?_)
      clear hK K hq
      rename World => v
      (try dsimp only [Act.put]); (try simp only [List.setIfInBounds_toArray, List.set_cons_zero, List.set_cons_succ])
      refine wpAnyH_ready (rs := [5]) (by kernel_rfl) (by simp) (AllReadyH.cons rfl (fun K hK => ?_) AllReadyH.nil)
      go_simp
      refine (S0.out _).mono ?_
      rintro e vn ⟨rfl, hb⟩
      have hq := hS.trans (hb.mono hS.size)
      have HA2 := Lib.hid (HA.out.step hb)
      clear HA
      have HA := HA2
      clear HA2
      clear hS hb
      go_simp
      refine hK.out _ _ hq (fun hS => ?_)
      clear hK K hq
      rename World => v
      (try dsimp only [Act.put]); (try simp only [List.setIfInBounds_toArray, List.set_cons_zero, List.set_cons_succ])
      refine wpAnyH_ready (rs := [7]) (by kernel_rfl) (by simp) (AllReadyH.cons rfl (fun K hK => ?_) AllReadyH.nil)
      rw [if_pos (by rfl)]
      refine wp_store_row 29 _ _ rfl ga D0.cells.toArray rfl rfl 29 _ (HA.out.at 0 rfl) infoRu rfl (one_ru _) ?_
      have hq := below_setRow hS (g := ga) HGE.out D0.cells.toArray
      have hput := HA.out.put 0 rfl D0.cells.toArray
      simp only [List.set_cons_succ, List.set_cons_zero] at hput
      generalize World.setRow _ ga _ = vs at hput hq ⊢
      have HC := Lib.hid hput
      clear hput
      refine hK.out _ _ hq (fun hS => ?_)
      clear hK K hq
      (try simp only [List.getElem_toArray, List.getElem_cons_succ, List.getElem_cons_zero])
      (try dsimp only [Act.put]); (try simp only [List.setIfInBounds_toArray, List.set_cons_zero, List.set_cons_succ])
      refine wpAnyH_done (by kernel_rfl) ?_ _
      go_wp2_with fail
      go_meet
      case rel => exact ⟨ga, rfl, HC.out⟩
  case rest =>
  obtain ⟨ga, rfl, hcut⟩ := hcut
  have HW := Lib.hid hcut
  clear hcut
  rename World => wx
  clear H1 F5 S0
  have k1' : wx.cell? ⟨gx, 1, none⟩ = some (I p.min) := HW.out.cell 1 1 rfl rfl
  have k8' : wx.cell? ⟨gx, 8, none⟩ = some (I p.walk) := HW.out.cell 1 8 rfl rfl
  have k9' : wx.cell? ⟨gx, 9, none⟩ = some (I p.blinks) := HW.out.cell 1 9 rfl rfl
  have k3' : wx.cell? ⟨gx, 3, none⟩ = some (I p.max) := HW.out.cell 1 3 rfl rfl
  obtain ⟨mi, hmi⟩ : ∃ x, p.min = x := ⟨_, rfl⟩
  obtain ⟨wa, hwa⟩ : ∃ x, p.walk = x := ⟨_, rfl⟩
  obtain ⟨bl, hbl⟩ : ∃ x, p.blinks = x := ⟨_, rfl⟩
  obtain ⟨ma, hma⟩ : ∃ x, p.max = x := ⟨_, rfl⟩
  rw [hmi, hwa, hbl, hma] at hmo
  rw [hmi] at k1' r1 r2
  rw [hwa, hbl] at r3
  rw [hwa] at k8'
  rw [hbl] at k9'
  rw [hma] at k3' r2
  clear hmi hwa hbl hma
  have w0 : 0 ≤ wa + bl := by omega
  have w9 : wa + bl ≤ 20 := by omega
  clear r3
  have em : (if (if mi < wa + bl then wa + bl else mi) < ma then ma else if mi < wa + bl then wa + bl else mi) = mo := by rw [← hmo]; split <;> split <;> omega
  go_upto_region 8 with fail
  (try rw [em])
  have mo0 : 0 ≤ mo := by omega
  have mo9 : mo ≤ 100 := HMO.out.2.2.2
  clear em hmo w0 w9 r1 r2 k1' k8' k9' k3'
  go_wp2_with fail
  go_loopw [16] (fun i wr => ∃ (q : Nat) (D : Ru), 1 ≤ q ∧ (q : Int) ≤ mo + h + 1 ∧ i = .int .i64 q ∧ Hid (Kv p k1 l1 h mo q D) ∧ Blk.Bks u [(ga, (Ru.cells D).toArray, 29), (gx, p.cells.toArray, 23)] wr) (fun i _ => (mo + h + 2 - intOf i).toNat)
  case atStart => exact ⟨1, D0, by omega, by omega, rfl, HK0, HW.out⟩
  case round =>
    obtain ⟨q, D, hq1, hq2, rfl, HI, hB⟩ := hrel
    have HB := Lib.hid hB
    clear hB HW HK0
    rename World => wr
    cases hd : D.dn
    · have hv := HI.out
      have hle : (q : Int) ≤ mo + h := by
        rcases hv with ⟨e, _⟩ | ⟨_, _, _, _, e0, e1, e2, _⟩
        · rw [hd] at e; cases e
        · omega
      have HT : Hid (∀ car push : Bool, Kv p k1 l1 h mo (q + 1) (stp p D ⟨false, false, car, push, true, decide (D.ex < h), false, false⟩)) := Lib.hid (fun car push => tickL PG2.out HKL.out HMO.out.1 HMO.out.2.1 HMO.out.2.2.1 mo9 h0 h20 (by omega) hle hd hv car push)
      clear hv
      have kd : wr.cell? ⟨ga, 7, none⟩ = some (.bool D.dn) := HB.out.cell 0 7 rfl rfl
      rw [hd] at kd
      clear hd HI
      by_cases hl3 : q < len
      · obtain ⟨hx, hzl⟩ := HA.out q hl3
        subst hx
        generalize z q = car at hzl
        have kz : wr.cell? (x.add q) = some (.bool car) := Arg.one_below hzl (A0.out.trans (HB.out.bel.mono A0.out.size))
        clear hzl
        go_upto_region 13 with fail
        clear kz
        obtain ⟨ho, hho⟩ : ∃ x, decide (D.ex < h) = x := ⟨_, rfl⟩
        obtain ⟨D', hD'⟩ : ∃ D', stp p D ⟨false, false, car, a2, true, ho, false, false⟩ = D' := ⟨_, rfl⟩
        have HK1 : Hid (Kv p k1 l1 h mo (q + 1) D') := Lib.hid (by have := HT.out car a2; rwa [hho, hD'] at this)
        have F1 : Hid (∀ W, Calls Try.prog 11 #[.agg p.cells.toArray, .agg D.cells.toArray, .agg (Cu.cells ⟨false, false, car, a2, true, ho, false, false⟩).toArray] W fun e w' => e = .returned (.agg D'.cells.toArray) ∧ Below W.heap.size W w') := Lib.hid (fun W => by rw [← hD']; exact step_any p D ⟨false, false, car, a2, true, ho, false, false⟩ W)
        clear hD' HT kd
        have ke : wr.cell? ⟨ga, 6, none⟩ = some (I D.ex) := HB.out.cell 0 6 rfl rfl
        generalize D.ex = ex at ke hho
        go_wp2_with (first | (refine Row.wpList_load_g 23 _ rfl (by first | rfl | (go_simp; done) | fail) ⟨gx, 0, none⟩ rfl p.cells _ (seg HB.out 1 0 rfl _ rfl) Try.underlying23 rfl infoP ?_) | (refine Row.wpList_load_g 29 _ rfl (by first | rfl | (go_simp; done) | fail) ⟨ga, 0, none⟩ rfl D.cells _ (seg HB.out 0 0 rfl _ rfl) Try.underlying29 rfl infoRu ?_) | (refine wpList_build rfl 31 [(4, .const (.bool true)), (2, .tmp 73), (3, .tmp 74), (5, .tmp 78)] rfl (Cu.cells ⟨false, false, car, a2, true, ho, false, false⟩).toArray [(4, .bool true), (2, .bool car), (3, .bool a2), (5, .bool ho)] (by first | rfl | (rw [← hho]; rfl)) (builtL car a2 ho) ?_))
        refine (F1.out _).mono ?_
        rintro e v4 ⟨rfl, b4⟩
        have H4 := Lib.hid (HB.out.step b4)
        clear b4 ke
        go_upto_region 10 with (refine wpList_store_row rfl 29 _ _ rfl ga D'.cells.toArray rfl rfl 29 _ (H4.out.at 0 rfl) infoRu rfl (one_ru _) ?_)
        have hput := H4.out.put 0 rfl D'.cells.toArray
        simp only [List.set_cons_succ, List.set_cons_zero] at hput
        generalize World.setRow v4 ga _ = v5 at hput ⊢
        have H5 := Lib.hid hput
        clear hput
        clear H4 HB hho
        go_wp2_with fail
        go_roundw
        case rel => exact ⟨q + 1, D', by omega, by omega, by go_num, by exact_mod_cast HK1, H5.out⟩
        case measure => simp [intOf]; omega
      · go_upto_region 13 with fail
        obtain ⟨ho, hho⟩ : ∃ x, decide (D.ex < h) = x := ⟨_, rfl⟩
        obtain ⟨D', hD'⟩ : ∃ D', stp p D ⟨false, false, false, a2, true, ho, false, false⟩ = D' := ⟨_, rfl⟩
        have HK1 : Hid (Kv p k1 l1 h mo (q + 1) D') := Lib.hid (by have := HT.out false a2; rwa [hho, hD'] at this)
        have F1 : Hid (∀ W, Calls Try.prog 11 #[.agg p.cells.toArray, .agg D.cells.toArray, .agg (Cu.cells ⟨false, false, false, a2, true, ho, false, false⟩).toArray] W fun e w' => e = .returned (.agg D'.cells.toArray) ∧ Below W.heap.size W w') := Lib.hid (fun W => by rw [← hD']; exact step_any p D ⟨false, false, false, a2, true, ho, false, false⟩ W)
        clear hD' HT kd
        have ke : wr.cell? ⟨ga, 6, none⟩ = some (I D.ex) := HB.out.cell 0 6 rfl rfl
        generalize D.ex = ex at ke hho
        go_wp2_with (first | (refine Row.wpList_load_g 23 _ rfl (by first | rfl | (go_simp; done) | fail) ⟨gx, 0, none⟩ rfl p.cells _ (seg HB.out 1 0 rfl _ rfl) Try.underlying23 rfl infoP ?_) | (refine Row.wpList_load_g 29 _ rfl (by first | rfl | (go_simp; done) | fail) ⟨ga, 0, none⟩ rfl D.cells _ (seg HB.out 0 0 rfl _ rfl) Try.underlying29 rfl infoRu ?_) | (refine wpList_build rfl 31 [(4, .const (.bool true)), (2, .tmp 73), (3, .tmp 74), (5, .tmp 78)] rfl (Cu.cells ⟨false, false, false, a2, true, ho, false, false⟩).toArray [(4, .bool true), (2, .bool false), (3, .bool a2), (5, .bool ho)] (by first | rfl | (rw [← hho]; rfl)) (builtL false a2 ho) ?_))
        refine (F1.out _).mono ?_
        rintro e v4 ⟨rfl, b4⟩
        have H4 := Lib.hid (HB.out.step b4)
        clear b4 ke
        go_upto_region 10 with (refine wpList_store_row rfl 29 _ _ rfl ga D'.cells.toArray rfl rfl 29 _ (H4.out.at 0 rfl) infoRu rfl (one_ru _) ?_)
        have hput := H4.out.put 0 rfl D'.cells.toArray
        simp only [List.set_cons_succ, List.set_cons_zero] at hput
        generalize World.setRow v4 ga _ = v5 at hput ⊢
        have H5 := Lib.hid hput
        clear hput
        clear H4 HB hho
        go_wp2_with fail
        go_roundw
        case rel => exact ⟨q + 1, D', by omega, by omega, by go_num, by exact_mod_cast HK1, H5.out⟩
        case measure => simp [intOf]; omega
    · obtain ⟨e1, e2⟩ : D.ex ≤ h ∧ D.tm ≤ q := by
        rcases HI.out with ⟨_, e1, e2⟩ | ⟨e, _⟩
        · exact ⟨e1, e2⟩
        · rw [hd] at e; cases e
      by_cases hle : (q : Int) ≤ mo + h
      · have kd : wr.cell? ⟨ga, 7, none⟩ = some (.bool D.dn) := HB.out.cell 0 7 rfl rfl
        have ke : wr.cell? ⟨ga, 6, none⟩ = some (I D.ex) := HB.out.cell 0 6 rfl rfl
        have kt : wr.cell? ⟨ga, 1, none⟩ = some (I D.tm) := HB.out.cell 0 1 rfl rfl
        rw [hd] at kd
        obtain ⟨ex, hex⟩ : ∃ x, D.ex = x := ⟨_, rfl⟩
        obtain ⟨tm, htm⟩ : ∃ x, D.tm = x := ⟨_, rfl⟩
        rw [hex] at ke e1
        rw [htm] at kt e2
        have e3 : tm ≤ mo + h + 1 := by omega
        clear e2 hex htm hd
        go_wp2_with fail
        refine (awake_any _).mono ?_
        rintro e u9 ⟨rfl, b9⟩
        go_wp2
        go_ret
        exact ⟨rfl, A0.out.trans ((HB.out.step b9).bel.mono A0.out.size)⟩
      · have kd : wr.cell? ⟨ga, 7, none⟩ = some (.bool D.dn) := HB.out.cell 0 7 rfl rfl
        have ke : wr.cell? ⟨ga, 6, none⟩ = some (I D.ex) := HB.out.cell 0 6 rfl rfl
        have kt : wr.cell? ⟨ga, 1, none⟩ = some (I D.tm) := HB.out.cell 0 1 rfl rfl
        rw [hd] at kd
        obtain ⟨ex, hex⟩ : ∃ x, D.ex = x := ⟨_, rfl⟩
        obtain ⟨tm, htm⟩ : ∃ x, D.tm = x := ⟨_, rfl⟩
        rw [hex] at ke e1
        rw [htm] at kt e2
        have e3 : tm ≤ mo + h + 1 := by omega
        clear e2 hex htm hd
        go_wp2_with fail
        refine (awake_any _).mono ?_
        rintro e u9 ⟨rfl, b9⟩
        go_wp2
        go_ret
        exact ⟨rfl, A0.out.trans ((HB.out.step b9).bel.mono A0.out.size)⟩
/-! ### the row's step -/
theorem lifted (os : Os) (started : os.Started) (H : Type) (enc : TypeId × Value → H) :
    ReturnsInHanded {} Try.checked os 7 .any (Rows.phaseLongSpec.pre6 enc Try.prog Try.f7 Rows.phaseLongRow.domain false) (Rows.phaseLongSpec.post enc Try.prog Try.f7 false true false false) := by
  refine returnsInHanded_of_change (C := Try.checked) own started (by kernel_rfl) Try.func7
    (ChangeSpec.witness6 (enc := enc) (C := Try.checked) false ⟨#[], #[.slice none 0 0, .int .i64 0, .bool false, .slice none 0 0, .int .i64 0], []⟩ 8 (by kernel_rfl) (by kernel_rfl) (by kernel_rfl) (by kernel_rfl)) ?_
  intro W base args ds gs before hval0 hW hcnd _
  have hval : ∀ (j : Nat) t v, Try.f7.params[j]? = some t → args[j]? = some v → Value.okWide Try.prog W .any base t v := hval0
  have hW' := hW
  obtain ⟨p, q, hA0, hV, rfl, hfz, hnd⟩ := hW
  have hA : DataW.TrodAll enc Try.prog W 0 (fun _ => true) true Try.f7.params.toList args.toList ds p := hA0
  rw [Try.params7] at hA hval
  obtain ⟨v0, vs0, d0, ds0, p0, q0, hargs, rfl, rfl, h0, r0⟩ := trodAll_cons hA
  obtain ⟨v1, vs1, d1, ds1, p1, q1, rfl, rfl, rfl, h1, r1⟩ := trodAll_cons r0
  obtain ⟨v2, vs2, d2, ds2, p2, q2, rfl, rfl, rfl, h2, r2⟩ := trodAll_cons r1
  obtain ⟨v3, vs3, d3, ds3, p3, q3, rfl, rfl, rfl, h3, r3⟩ := trodAll_cons r2
  obtain ⟨v4, vs4, d4, ds4, p4, q4, rfl, rfl, rfl, h4, r4⟩ := trodAll_cons r3
  obtain ⟨rfl, rfl, rfl⟩ := trodAll_nil r4
  obtain rfl : args = #[v0, v1, v2, v3, v4] := by cases args; simp_all
  obtain ⟨rfl, rfl⟩ := trodVars_none hV
  obtain ⟨a0, len0, cap0, rfl⟩ := okWide_slice Try.underlying37 (hval 0 37 v0 rfl rfl)
  have k0 := h0
  have lt0 : ∀ x ∈ p0, x.block < W.heap.size := by obtain ⟨m, hm⟩ := k0; exact DataW.trod_lt m _ _ _ hm
  obtain ⟨z0, w0⟩ : ∃ zs, IsRow .i64 W a0 len0 cap0 zs := by
    obtain ⟨fuel, hf⟩ := h0
    rcases open_ints Try.underlying37 Try.underlying3 (by kernel_rfl) hf with ⟨hcs, _⟩ | ⟨x, l, c, zs, hcs, _, hl, hm, hz, _, hcell, hwz⟩
    · simp [Value.cells] at hcs
      obtain ⟨rfl, rfl, rfl⟩ := hcs
      exact ⟨[], .inl ⟨rfl, rfl, rfl, rfl⟩⟩
    · simp [Value.cells] at hcs
      obtain ⟨rfl, rfl, rfl⟩ := hcs
      exact ⟨zs, .inr ⟨_, rfl, hl, hm, by simpa using hz, hcell, hwz⟩⟩
  obtain ⟨a1, rfl, rfl, rfl, w1⟩ := open_int Try.underlying3 (hval 1 3 v1 rfl rfl) h1
  obtain ⟨a2, rfl, rfl, rfl⟩ := open_bool Try.underlying4 (hval 2 4 v2 rfl rfl) h2
  obtain ⟨a3, len3, cap3, rfl⟩ := okWide_slice Try.underlying50 (hval 3 50 v3 rfl rfl)
  have k3 := h3
  have lt3 : ∀ x ∈ p3, x.block < W.heap.size := by obtain ⟨m, hm⟩ := k3; exact DataW.trod_lt m _ _ _ hm
  obtain ⟨s3, l3, e3, w3⟩ : ∃ (s : Tab.Sl) (l : List Bool), Value.slice a3 len3 cap3 = s.val l.length ∧ Tab.RowOf 1 (fun b : Bool => [Value.bool b]) W s l := by
    obtain ⟨fuel, hf⟩ := h3
    obtain ⟨s, l, e, r, _⟩ := TabArg.tr_row (k := 1) (f := (fun b : Bool => [Value.bool b])) (p := fun _ => True) Try.underlying50 (by kernel_rfl) (fun n cs x hx => by obtain ⟨z, hz, _⟩ := DataW.trod_bool Try.underlying4 hx; exact ⟨z, hz, trivial⟩) ⟨fuel, _, hf⟩
    exact ⟨s, l, e, r⟩
  simp only [Tab.Sl.val, Value.slice.injEq] at e3
  obtain ⟨rfl, rfl, rfl⟩ := e3
  obtain ⟨a4, rfl, rfl, rfl, w4⟩ := open_int Try.underlying3 (hval 4 3 v4 rfl rfl) h4
  clear hA0 hval0
  refine (walk a0 len0 cap0 z0 a1 a2 s3 l3 a4 W w0 w1 w3 w4).mono fun e W' ⟨he, bel⟩ => ?_
  subst he
  exact ⟨_, rfl, _, _, _, [], _, [], hW', trodAll_mk1 (shut_bool Try.underlying4 _), (trodAll_cons_mk (Below.trod laidOut (by kernel_rfl) (of_decide_eq_true (by kernel_rfl)) k0 bel lt0) (trodAll_cons_mk (shut_int Try.underlying3 w1) (trodAll_cons_mk (shut_bool Try.underlying4 _) (trodAll_cons_mk (Below.trod laidOut (by kernel_rfl) (of_decide_eq_true (by kernel_rfl)) k3 bel lt3) (trodAll_cons_mk (shut_int Try.underlying3 w4) trodAll_mk0))))), rfl, bel.frame _, fun h => by cases h⟩
theorem over : Rows.phaseLongRow.holds Try.pinned (OpenSpec.ofChange Rows.phaseLongSpec) :=
  OpenClaim.holds_of_wide 7 Try.f7 rfl rfl rfl rfl rfl rfl rfl ⟨rfl, rfl, rfl, rfl, rfl⟩ rfl rfl rfl rfl rfl (by kernel_rfl) Try.func7 (by kernel_rfl)
    (of_decide_eq_true (by kernel_rfl)) (by unfold Func.isWrapper; first | (rw [if_pos (by decide +kernel)]; kernel_rfl) | (rw [if_neg (by decide +kernel)]; exact ⟨rfl, rfl⟩))
    (fun os started H enc _ => lifted os started H enc)
/-- the statement -/
theorem proved : Rows.PhaseLongSaid :=
  over
#print axioms proved
end phaseLong
end Go.Proofs.Ytbpfknkbiaplpaa
