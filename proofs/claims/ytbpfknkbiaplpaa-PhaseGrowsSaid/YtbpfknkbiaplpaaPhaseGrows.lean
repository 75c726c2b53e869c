/- PhaseGrows returns true at any numbers of a table, any place and any row of ends: what a green came to at its end is what the next one's limit hangs on. No condition. -/
import Derived.Test.YtbpfknkbiaplpaaRows
import Derived.Test.YtbpfknkbiaplpaaPart05
import Derived.Test.YtbpfknkbiaplpaaPart01
import Derived.Deep.Cut
import Derived.LoopTactic
import Derived.BigQuiet
import Derived.Test.YtbpfknkbiaplpaaPart09
import Derived.Test.YtbpfknkbiaplpaaPart10
import Derived.Deep.CutRange
import Derived.Test.YtbpfknkbiaplpaaPart11
import Derived.WalkKit
import Derived.WalkLawsBesides
import Derived.ProofKit
import Derived.OpenShut
import Derived.ShutString
import Derived.ChangeOld
import Derived.Below
set_option linter.unusedVariables false
set_option linter.unusedSimpArgs false
set_option linter.unusedSectionVars false
set_option maxHeartbeats 8000000
set_option maxRecDepth 100000
namespace Go.Proofs.Ytbpfknkbiaplpaa
namespace phaseGrows
open Go.ChangeShapes Go.WideShapes Go.ChangeAt Go.RowKit
open Tab Ru QL
open May (infoP)
open Ped (infoFt)
open Gap (infoTn)
open GenT (genTab)
theorem own : ownKnob Try.prog.godebug = none := by kernel_rfl
theorem laidOut : laidOutB Try.prog = true := by kernel_rfl
/-- WHAT THE WALK IS TOLD OF A SLICE OF INTEGERS THAT CAME IN: it is nil; or it leads to a row of 'cap' cells, the numbers 'zs' (the first 'len' are its elements, the rest its spare room), each fitting its kind. -/
def IsRow (k : IntKind) (w : World) (a : Option Addr) (len cap : Nat) (zs : List Int) : Prop :=
  (a = none ∧ len = 0 ∧ cap = 0 ∧ zs = []) ∨
  ∃ x, a = some x ∧ len ≤ cap ∧ cap ≤ maxLen ∧ zs.length = cap ∧ (∀ i, i < zs.length → w.cell? (x.add i) = some (.int k (zs.getD i 0))) ∧ ∀ n ∈ zs, (Lit.int k n).wf = true
theorem isRow_int {w : World} {a : Option Addr} {len cap : Nat} {zs : List Int} (h : IsRow .i64 w a len cap zs) : (zs.take len).length = len ∧ Tab.IntRow w ⟨a, cap⟩ (zs.take len) := by
  rcases h with ⟨rfl, rfl, rfl, rfl⟩ | ⟨x, rfl, h1, h2, h3, h4, _⟩
  · exact ⟨rfl, .inl ⟨rfl, rfl, rfl⟩⟩
  · have hl : (zs.take len).length = len := by rw [List.length_take]; omega
    refine ⟨hl, .inr ⟨x, rfl, by rw [hl]; exact h1, h2, fun i v hv j u hu => ?_⟩⟩
    have hi : i < len := by have := (List.getElem?_eq_some_iff.1 hv).1; omega
    match j, hu with
    | 0, hu =>
      simp at hu
      subst hu
      rw [List.getElem?_take, if_pos hi] at hv
      have := h4 i (by omega)
      rw [List.getD_eq_getElem?_getD, hv] at this
      rw [Nat.mul_one, Tab.add_two, Nat.add_zero]
      exact this
    | j + 1, hu => simp at hu
/-- What is known of a green time for which others wait, at its tick n + 1. -/
def Gv (p : Ph) (lg : Bool) (a b c n : Int) (D : Ru) : Prop := D.co = 1 ∧ D.tl = a ∧ D.tu = b ∧ D.td = c ∧ D.tm = n + 1 ∧ D.pr = n ∧ 0 ≤ n ∧ (D.dn = true → (D.mx = true → Gap.lm p a ≤ n) ∧ (lg = true → 0 < p.gap → D.mx = true))
theorem gv0 {p : Ph} {D : Ru} (h : D.co = 0) (lg : Bool) : Gv p lg D.tl D.tu D.td 0 (stp p D ⟨true, false, false, false, false, false, false, false⟩) := by
  unfold stp
  rw [if_neg (by omega), if_neg (by omega), if_neg (by omega)]
  exact ⟨rfl, rfl, rfl, rfl, rfl, rfl, by omega, fun e => by cases e⟩
theorem gv1 {p : Ph} {lg : Bool} {a b d n : Int} {D : Ru} (hv : Gv p lg a b d n D) (hn : n ≤ 1000) (hd : D.dn = false) : Gv p lg a b d (n + 1) (stp p D ⟨false, false, lg, false, true, false, false, false⟩) := by
  obtain ⟨hco, h1, h2, h3, h4, h5, h6, _⟩ := hv
  generalize hc : (⟨false, false, lg, false, true, false, false, false⟩ : Cu) = c
  have hps : c.ps = true := by rw [← hc]
  have hen : c.en = false := by rw [← hc]
  have hho : c.ho = false := by rw [← hc]
  have hea : c.ea = false := by rw [← hc]
  have hhe : c.he = lg := by rw [← hc]
  have es : stp p D c = sty p c (lon p D c) := by unfold stp; rw [if_pos hco, hen]; rfl
  rw [es]
  have n1 : (lon p D c).tm = n + 1 + 1 := by show Cnt.more D.tm = _; rw [h4, Cnt.more_in (by omega) (by omega)]
  have n2 : (lon p D c).pr = n + 1 := by show (if c.ps then Cnt.more D.pr else D.pr) = _; rw [hps, if_pos rfl, h5, Cnt.more_in (by omega) (by omega)]
  have n3 : (lon p D c).dn = false := by show (D.dn && _) = false; rw [hd]; rfl
  have n4 : (lon p D c).lf = Gap.lf p.gap D.lf lg := by show Gap.lf p.gap D.lf c.he = _; rw [hhe]
  have n5 : (lon p D c).co = 1 := hco
  have n6 : (lon p D c).tl = a := h1
  have n7 : (lon p D c).tu = b := h2
  have n8 : (lon p D c).td = d := h3
  generalize lon p D c = m at n1 n2 n3 n4 n5 n6 n7 n8 ⊢
  unfold sty
  cases hdu : duB p c m
  · rw [if_neg (by simp)]
    exact ⟨n5, n6, n7, n8, n1, n2, by omega, fun e => by rw [n3] at e; cases e⟩
  · rw [if_pos rfl, hho, if_neg (by simp)]
    refine ⟨n5, n6, n7, n8, n1, n2, by omega, fun _ => ⟨fun e => ?_, fun e1 e2 => ?_⟩⟩
    · have e' : (decide (0 < m.lf) && fuB p m) = true := e
      rw [Bool.and_eq_true] at e'
      have e2 := of_decide_eq_true e'.2
      rw [n6, n2] at e2
      exact e2
    · have hl : m.lf = p.gap := by rw [n4, e1]; unfold Gap.lf; rw [if_pos rfl]
      unfold duB at hdu
      rw [hea] at hdu
      simp only [Bool.and_eq_true, Bool.or_eq_true, decide_eq_true_eq, Bool.or_false] at hdu
      have hfu : fuB p m = true := by
        rcases hdu.2.2.2.2 with h | h
        · omega
        · simpa using h
      show (decide (0 < m.lf) && fuB p m) = true
      rw [hfu, decide_eq_true (by omega)]
      rfl
theorem gv_end {p : Ph} {lg : Bool} {a b d n : Int} {D : Ru} (hv : Gv p lg a b d n D) {a' b' d' : Int} (ht : tre p D = ⟨a', b', d'⟩) : stp p D ⟨false, true, false, false, false, false, false, false⟩ = ⟨2, 1, 0, 0, 0, 0, 0, false, false, a', b', d'⟩ := by
  unfold stp
  rw [if_pos hv.1, if_pos rfl]
  unfold fin
  rw [ht]
/-- What is known behind a green time. -/
def Yv (p : Ph) (a b c n : Int) (D : Ru) : Prop := D.tl = a ∧ D.tu = b ∧ D.td = c ∧ (D.co = 0 ∨ (D.co = 2 ∧ D.tm = n + 1 ∧ D.tm ≤ p.yellow) ∨ (D.co = 3 ∧ D.tm = n + 1 - p.yellow ∧ 1 ≤ D.tm ∧ D.tm ≤ p.red))
theorem yv1 {p : Ph} {a b d n : Int} {D : Ru} (hp : GenQ.Rng p) (hv : Yv p a b d n D) (hn : 0 ≤ n) (hco : ¬ D.co = 0) : Yv p a b d (n + 1) (stp p D ⟨false, false, false, false, false, false, false, false⟩) := by
  have hy := hp.yellow
  have hr := hp.red
  obtain ⟨h1, h2, h3, h | ⟨h, h4, h5⟩ | ⟨h, h4, h5, h6⟩⟩ := hv
  · exact absurd h hco
  · unfold stp
    rw [if_neg (by omega), if_pos h]
    unfold yel
    by_cases c1 : D.tm < p.yellow
    · rw [if_pos c1]
      have e : (lst D 2).tm = n + 1 + 1 := by show Cnt.more D.tm = _; rw [Cnt.more_in (by omega) (by omega), h4]
      exact ⟨h1, h2, h3, .inr (.inl ⟨rfl, e, by rw [e]; omega⟩)⟩
    · rw [if_neg c1]
      by_cases c2 : 0 < p.red
      · rw [if_pos c2]
        exact ⟨h1, h2, h3, .inr (.inr ⟨rfl, by show (1 : Int) = _; omega, by show (1 : Int) ≤ 1; omega, by show (1 : Int) ≤ p.red; omega⟩)⟩
      · rw [if_neg c2]
        exact ⟨h1, h2, h3, .inl rfl⟩
  · unfold stp
    rw [if_neg (by omega), if_neg (by omega), if_pos h]
    unfold cle
    by_cases c1 : D.tm < p.red
    · rw [if_pos c1]
      have e : (lst D 3).tm = D.tm + 1 := by show Cnt.more D.tm = _; rw [Cnt.more_in (by omega) (by omega)]
      exact ⟨h1, h2, h3, .inr (.inr ⟨rfl, by rw [e]; omega, by rw [e]; omega, by rw [e]; omega⟩)⟩
    · rw [if_neg c1]
      exact ⟨h1, h2, h3, .inl rfl⟩
theorem yv_end {p : Ph} {a b d n : Int} {D : Ru} (hp : GenQ.Rng p) (hv : Yv p a b d n D) (hn : 40 ≤ n) : D.co = 0 := by
  have hy := hp.yellow
  have hr := hp.red
  rcases hv.2.2.2 with h | ⟨h, h4, h5⟩ | ⟨h, h4, h5, h6⟩
  · exact h
  · omega
  · omega
theorem field_tr (r : Ru) (w : World) : (Instr.field 29 (.agg r.cells.toArray) 8).run Try.prog w = .ok (.agg #[I r.tl, I r.tu, I r.td]) w := by
  first
    | rfl
    | simp [Instr.field, run_underlying Try.underlying29, go_sem, Result.andThen]
/-! ### the walk -/
theorem walk (a0 : Option Addr) (len0 cap0 : Nat) (z0 : List Int) (a1 : Int) (s2 : Tab.Sl) (l2 : List Int) (w : World) (w0 : IsRow .i64 w a0 len0 cap0 z0) (w1 : (Lit.int .i64 a1).wf = true) (w2 : Tab.RowOf 1 (fun n : Int => [Tab.I n]) w s2 l2) :
    Calls Try.prog 8 #[.slice a0 len0 cap0, .int .i64 a1, .slice s2.a l2.length s2.cap] w fun e w' => e = .returned (.bool true) ∧ Below w.heap.size w w' := by
  obtain ⟨x, z, hA, hl1, hc1⟩ := Arg.ints_at w2
  obtain ⟨sa, cap⟩ := s2
  dsimp only at hA hl1 hc1 ⊢
  generalize l2.length = len at hA hl1 ⊢
  have HA := Lib.hid hA
  unfold maxLen at hc1
  clear hA w2
  obtain ⟨hlen, hrow⟩ := isRow_int w0
  obtain ⟨L, hL⟩ : ∃ L, L = z0.take len0 := ⟨_, rfl⟩
  rw [← hL] at hlen hrow
  clear hL w0
  subst hlen
  have hz := (zero_of_info GenT.infoTz).1
  have hZs : (Clone.zTab.cells Clone.zHd).length = 131 := rfl
  generalize hZ : GenT.zTab.cells GenT.zHd = Z at *
  have ZS : Z.toArray.size = 131 := by rw [← hZ]; rfl
  clear hZ hZs
  have GF : Hid (∀ k : Nat, k < 8 → (Clear.phAt (genTab L) k).on = true → GenQ.Rng (Clear.phAt (genTab L) k)) := Lib.hid (GenQ.gen_rng L)
  go_enter Try.func8, Try.ntmps8
  go_wp2_with fail
  refine (GenT.table_any a0 cap0 L w hrow).mono ?_
  rintro e u0 ⟨hd, rfl, ht, hb⟩
  have CS := GenT.cells_cut hd ht.ph ht.cf ht.fl
  have ONE := (cells_ok ht).one
  have T8 := Lib.hid ht.ph
  have HT : Hid (∀ W, Below u0.heap.size u0 W → IsTab W hd (genTab L)) := Lib.hid (fun W hb => ht.below hb)
  have B0 := Lib.hid hb
  have IA : Hid ((Try.prog.info? 45).map (·.size) = some ((genTab L).cells hd).length) := Lib.hid (by rw [CS]; exact May.infoT)
  clear hb ht
  generalize hc : (genTab L).cells hd = c at *
  have HC := Lib.hid hc
  clear hc
  go_upto_region 2 with (refine Row.wpList_store_new rfl 45 _ _ rfl u0 Z.toArray c.toArray rfl rfl rfl (by rw [List.size_toArray]; exact IA.out) (by rw [ZS, List.size_toArray, CS]) ONE ?_)
  have hb2 : Below u0.heap.size u0 (u0.alloc (.cells c.toArray 45)) := (Below.refl _ _).alloc (Nat.le_refl _) _
  have hl : Lies (u0.alloc (.cells c.toArray 45)) ⟨u0.heap.size, 0, none⟩ c := Row.lies_new _ _ _
  have TB0 : Hid (∀ W, Below (u0.alloc (.cells c.toArray 45)).heap.size (u0.alloc (.cells c.toArray 45)) W → IsTab W hd (genTab L)) := Lib.hid (fun W hb => HT.out W (hb2.trans (hb.mono hb2.size)))
  generalize u0.alloc (.cells c.toArray 45) = u at hb2 hl TB0 ⊢
  have TB : Hid (∀ W, Below u.heap.size u W → IsTab W hd (genTab L)) := TB0
  have A0 : Hid (Below w.heap.size w u) := Lib.hid (B0.out.trans (hb2.mono B0.out.size))
  have A1 : Hid (∀ W, Below u.heap.size u W → Lies W ⟨u0.heap.size, 0, none⟩ c) := Lib.hid (fun W hb => Lies.below hl hb)
  clear hb2 hl TB0 HT B0 hrow hz ZS ONE CS
  generalize u0.heap.size = tb at *
  generalize genTab L = T at *
  obtain ⟨k, hk⟩ : ∃ k : Nat, a1 % 8 = (k : Int) := ⟨(a1 % 8).toNat, by have := Int.emod_nonneg a1 (show (8 : Int) ≠ 0 by decide); omega⟩
  have hk8 : k < 8 := by have := Int.emod_lt_of_pos a1 (show (0 : Int) < 8 by decide); omega
  have PL : Hid (∀ W, Calls Try.prog 18 #[.int .i64 a1, .int .i64 8] W fun e w' => e = .returned (.int .i64 k) ∧ W = w') := Lib.hid (fun W => by have := RefS.place_any a1 8 W (by decide) (by decide); rwa [hk] at this)
  have KK := Lib.hid hk8
  clear hk
  have LP : Lies u ⟨tb, k * 13, none⟩ (Clear.phAt T k).cells := by
    have h := A1.out u (Below.refl _ _)
    rw [← HC.out] at h
    intro j v hj
    have := h (k * 13 + j) v (GenQ.cells_at (TB.out u (Below.refl _ _)) KK.out hj)
    rw [Addr.add_mid, Nat.zero_add] at this
    rwa [Addr.add_mid]
  have PG := Lib.hid (GF.out k hk8)
  generalize hph : Clear.phAt T k = p at LP PG
  clear hph GF
  have LP0 := Lib.hid LP
  clear LP
  have IP : (Try.prog.info? 23).map (·.size) = some p.cells.length := infoP
  go_upto_region 3 with (first | (go_at_call 18; refine (PL.out _).mono ?_; rintro e w' ⟨rfl, rfl⟩) | (refine Row.wpList_load_lies rfl 23 _ rfl ⟨tb, k * 13, none⟩ rfl p.cells _ LP0.out Try.underlying23 rfl IP ?_) | (refine Row.wpList_store_new rfl 23 _ _ rfl _ _ p.cells.toArray rfl rfl rfl May.infoP rfl (Ph.one _) ?_))
  dsimp only [Act.put]
  (try simp only [List.setIfInBounds_toArray, List.set_cons_zero, List.set_cons_succ])
  have h1 := (Blk.Bks.nil u).alloc p.cells.toArray 23
  generalize World.alloc u _ = v1 at h1 ⊢
  generalize u.heap.size = gx at h1 ⊢
  have H1 := Lib.hid h1
  clear h1 LP0 PL KK HC TB T8 IA A1 hk8 IP
  obtain ⟨B, hB⟩ : ∃ D, bgn p = D := ⟨_, rfl⟩
  have F5 : Hid (∀ W, Calls Try.prog 15 #[.agg p.cells.toArray] W fun e w' => e = .returned (.agg B.cells.toArray) ∧ Below W.heap.size W w') := Lib.hid (fun W => by rw [← hB]; exact begin_any p W)
  have HBG := Lib.hid hB
  clear hB
  have k0 : v1.cell? ⟨gx, 0, none⟩ = some (.bool p.on) := H1.out.cell 0 0 rfl rfl
  generalize hon : p.on = on at k0
  by_cases hl : 40 < len
  · have hl2 : decide ((len : Int) > 40) = true := decide_eq_true (by omega)
    cases on
    · go_wp2_with fail
      refine (awake_any _).mono ?_
      rintro e u9 ⟨rfl, b9⟩
      go_wp2
      go_ret
      exact ⟨rfl, A0.out.trans ((H1.out.step b9).bel.mono A0.out.size)⟩
    · go_wp2_with fail
      refine (awake_any _).mono ?_
      rintro e u9 ⟨rfl, b9⟩
      go_wp2
      go_ret
      exact ⟨rfl, A0.out.trans ((H1.out.step b9).bel.mono A0.out.size)⟩
  have hl2 : decide ((len : Int) > 40) = false := decide_eq_false (by omega)
  cases on
  · go_wp2_with fail
    refine (awake_any _).mono ?_
    rintro e u9 ⟨rfl, b9⟩
    go_wp2
    go_ret
    exact ⟨rfl, A0.out.trans ((H1.out.step b9).bel.mono A0.out.size)⟩
  have PG2 := Lib.hid (PG.out hon)
  clear hon PG
  go_upto_region 5 with fail
  clear k0
  go_wp2_with (refine Row.wpList_load_g 23 _ rfl (by first | rfl | (go_simp; done) | fail) ⟨gx, 0, none⟩ rfl p.cells _ (seg H1.out 0 0 rfl _ rfl) Try.underlying23 rfl infoP ?_)
  refine (F5.out _).mono ?_
  rintro e vn ⟨rfl, bc⟩
  have HN := Lib.hid (H1.out.step bc)
  clear bc
  go_upto_region 6 with (refine Row.wpList_store_new rfl 29 _ _ rfl _ _ B.cells.toArray rfl rfl rfl infoRu rfl (one_ru _) ?_)
  have hn := HN.out.alloc B.cells.toArray 29
  generalize World.alloc vn _ = v2 at hn ⊢
  generalize vn.heap.size = ga at hn ⊢
  have H2 := Lib.hid hn
  clear hn
  clear H1 HN
  clear F5
  have F6 : Hid (∀ W, Calls Try.prog 16 #[.agg p.cells.toArray] W fun e w' => e = .returned (.agg B.cells.toArray) ∧ Below W.heap.size W w') := Lib.hid (fun W => by rw [← HBG.out]; exact rbegin_any p W)
  have hft := field_tr B
  go_wp2_with (refine Row.wpList_load_g 23 _ rfl (by first | rfl | (go_simp; done) | fail) ⟨gx, 0, none⟩ rfl p.cells _ (seg H2.out 1 0 rfl _ rfl) Try.underlying23 rfl infoP ?_)
  refine (F6.out _).mono ?_
  rintro e v3 ⟨rfl, bc⟩
  have H3 := Lib.hid (H2.out.step bc)
  clear bc
  go_upto_region 7 with (refine Row.wpList_store_new rfl 27 _ _ rfl _ _ #[I B.tl, I B.tu, I B.td] rfl rfl rfl infoTn rfl (by simp [Value.oneCell']) ?_)
  have hn := H3.out.alloc #[I B.tl, I B.tu, I B.td] 27
  generalize World.alloc v3 _ = v4 at hn ⊢
  generalize v3.heap.size = gw at hn ⊢
  have H4 := Lib.hid hn
  clear hn
  clear H2 H3 F6 hft
  go_wp2_with fail
  go_loopw [11] (fun i wr => ∃ (q : Nat) (D : Ru), q ≤ len ∧ i = .int .i64 q ∧ D.co = 0 ∧ Blk.Bks u [(gw, #[I D.tl, I D.tu, I D.td], 27), (ga, D.cells.toArray, 29), (gx, p.cells.toArray, 23)] wr) (fun i _ => len - (intOf i).toNat)
  case atStart => exact ⟨0, B, by omega, rfl, by rw [← HBG.out]; rfl, H4.out⟩
  case round =>
    obtain ⟨q, D, hq, rfl, hco, hB⟩ := hrel
    have HB := Lib.hid hB
    clear hB H4
    rename World => wg
    by_cases hlt : q < len
    · obtain ⟨hx, hzl⟩ := HA.out q hlt
      subst hx
      generalize z q = n at hzl
      have HZ := Lib.hid hzl
      clear hzl
      obtain ⟨e3, he3⟩ : ∃ e, n % 3 = e := ⟨_, rfl⟩
      have PL3 : Hid (∀ W, Calls Try.prog 18 #[.int .i64 n, .int .i64 3] W fun e w' => e = .returned (.int .i64 e3) ∧ W = w') := Lib.hid (fun W => by have := RefS.place_any n 3 W (by decide) (by decide); rwa [he3] at this)
      have e30 : 0 ≤ e3 := by omega
      have e31 : e3 < 3 := by omega
      clear he3
      obtain ⟨lg, hlg⟩ : ∃ b, (e3 == 1) = b := ⟨_, rfl⟩
      obtain ⟨G0, hG0⟩ : ∃ D', stp p D ⟨true, false, false, false, false, false, false, false⟩ = D' := ⟨_, rfl⟩
      have HG0 : Hid (Gv p lg D.tl D.tu D.td 0 G0) := Lib.hid (by rw [← hG0]; exact gv0 hco lg)
      have S1 : Hid (∀ W, Calls Try.prog 11 #[.agg p.cells.toArray, .agg D.cells.toArray, .agg (Cu.cells ⟨true, false, false, false, false, false, false, false⟩).toArray] W fun e w' => e = .returned (.agg G0.cells.toArray) ∧ Below W.heap.size W w') := Lib.hid (fun W => by rw [← hG0]; exact step_any p D ⟨true, false, false, false, false, false, false, false⟩ W)
      clear hG0 hco
      go_wp2_with (first | (refine Row.wpList_load_g 23 _ rfl (by first | rfl | (go_simp; done) | fail) ⟨gx, 0, none⟩ rfl p.cells _ (seg HB.out 2 0 rfl _ rfl) Try.underlying23 rfl infoP ?_) | (refine Row.wpList_load_g 29 _ rfl (by first | rfl | (go_simp; done) | fail) ⟨ga, 0, none⟩ rfl D.cells _ (seg HB.out 1 0 rfl _ rfl) Try.underlying29 rfl infoRu ?_) | (refine wpList_build rfl 31 [(0, .const (.bool true))] rfl (Cu.cells ⟨true, false, false, false, false, false, false, false⟩).toArray _ (by rfl) (builtS) ?_))
      refine (S1.out _).mono ?_
      rintro e v5 ⟨rfl, bc⟩
      have H5 := Lib.hid (HB.out.step bc)
      clear bc
      go_upto_region 11 with (refine wpList_store_row rfl 29 _ _ rfl ga G0.cells.toArray rfl rfl 29 _ (H5.out.at 1 rfl) infoRu rfl (one_ru _) ?_)
      have hput := H5.out.put 1 rfl G0.cells.toArray
      simp only [List.set_cons_succ, List.set_cons_zero] at hput
      generalize World.setRow v5 ga _ = v6 at hput ⊢
      have H6 := Lib.hid hput
      clear hput
      clear H5 HB S1
      have kz : v6.cell? (x.add q) = some (I n) := Arg.one_below HZ.out (A0.out.trans (H6.out.bel.mono A0.out.size))
      rename_i K hK
      have HK := Lib.hid hK
      clear hK
      go_wp2_with (go_at_call 18; refine (PL3.out _).mono ?_; rintro e w' ⟨rfl, rfl⟩)
      clear kz
      refine HK.out _ _ ?_
      clear HK K
      apply wp_seq_k
      intro K hK
      have HK := Lib.hid hK
      clear hK
      obtain ⟨ta, hta⟩ : ∃ x, D.tl = x := ⟨_, rfl⟩
      obtain ⟨tb', htb⟩ : ∃ x, D.tu = x := ⟨_, rfl⟩
      obtain ⟨tc, htc⟩ : ∃ x, D.td = x := ⟨_, rfl⟩
      rw [hta, htb, htc] at HG0 H6
      clear hta htb htc
      go_cut [] from 36 to 119 (fun wx => ∃ (m : Int) (G : Ru), Gv p lg ta tb' tc m G ∧ Blk.Bks u [(gw, #[I ta, I tb', I tc], 27), (ga, G.cells.toArray, 29), (gx, p.cells.toArray, 23)] wx)
      case first =>
        go_wp2_with fail
        go_loopw [13] (fun i wr => ∃ (m : Nat) (G : Ru), m ≤ 200 ∧ i = .int .i64 m ∧ Hid (Gv p lg ta tb' tc m G) ∧ Blk.Bks u [(gw, #[I ta, I tb', I tc], 27), (ga, G.cells.toArray, 29), (gx, p.cells.toArray, 23)] wr) (fun i _ => 200 - (intOf i).toNat)
        case atStart => exact ⟨0, G0, by omega, rfl, HG0, H6.out⟩
        case round =>
          obtain ⟨m, G, hm, rfl, HI, hB⟩ := hrel
          have HB := Lib.hid hB
          clear hB H6 HG0
          rename World => wr
          by_cases hlm : m < 200
          rotate_left
          · obtain rfl : m = 200 := by omega
            go_wp2_with fail
            go_meet
            case rel => exact ⟨_, G, HI.out, HB.out⟩
          have kd : wr.cell? ⟨ga, 7, none⟩ = some (.bool G.dn) := HB.out.cell 1 7 rfl rfl
          have kz : wr.cell? (x.add q) = some (I n) := Arg.one_below HZ.out (A0.out.trans (HB.out.bel.mono A0.out.size))
          cases hd : G.dn
          rotate_left
          · rw [hd] at kd
            go_wp2_with fail
            go_meet
            case rel => exact ⟨_, G, HI.out, HB.out⟩
          rw [hd] at kd
          by_cases h2 : e3 < 2
          rotate_left
          · go_wp2_with (go_at_call 18; refine (PL3.out _).mono ?_; rintro e w' ⟨rfl, rfl⟩)
            go_meet
            case rel => exact ⟨_, G, HI.out, HB.out⟩
          obtain ⟨G', hG'⟩ : ∃ D', stp p G ⟨false, false, lg, false, true, false, false, false⟩ = D' := ⟨_, rfl⟩
          have HI' : Hid (Gv p lg ta tb' tc (m + 1) G') := Lib.hid (by rw [← hG']; exact gv1 HI.out (by omega) hd)
          have S2 : Hid (∀ W, Calls Try.prog 11 #[.agg p.cells.toArray, .agg G.cells.toArray, .agg (Cu.cells ⟨false, false, lg, false, true, false, false, false⟩).toArray] W fun e w' => e = .returned (.agg G'.cells.toArray) ∧ Below W.heap.size W w') := Lib.hid (fun W => by rw [← hG']; exact step_any p G ⟨false, false, lg, false, true, false, false, false⟩ W)
          clear hG' HI hd
          go_upto_region 15 with (go_at_call 18; refine (PL3.out _).mono ?_; rintro e w' ⟨rfl, rfl⟩)
          clear kz kd
          go_wp2_with (first | (refine Row.wpList_load_g 23 _ rfl (by first | rfl | (go_simp; done) | fail) ⟨gx, 0, none⟩ rfl p.cells _ (seg HB.out 2 0 rfl _ rfl) Try.underlying23 rfl infoP ?_) | (refine Row.wpList_load_g 29 _ rfl (by first | rfl | (go_simp; done) | fail) ⟨ga, 0, none⟩ rfl G.cells _ (seg HB.out 1 0 rfl _ rfl) Try.underlying29 rfl infoRu ?_) | (refine wpList_build rfl 31 [(4, .const (.bool true)), (2, .tmp 71)] rfl (Cu.cells ⟨false, false, lg, false, true, false, false, false⟩).toArray _ (by rfl) (builtPH lg) ?_))
          refine (S2.out _).mono ?_
          rintro e v7 ⟨rfl, bc⟩
          have H7 := Lib.hid (HB.out.step bc)
          clear bc
          go_upto_region 14 with (refine wpList_store_row rfl 29 _ _ rfl ga G'.cells.toArray rfl rfl 29 _ (H7.out.at 1 rfl) infoRu rfl (one_ru _) ?_)
          have hput := H7.out.put 1 rfl G'.cells.toArray
          simp only [List.set_cons_succ, List.set_cons_zero] at hput
          generalize World.setRow v7 ga _ = v8 at hput ⊢
          have H8 := Lib.hid hput
          clear hput
          clear H7 HB S2
          go_wp2_with fail
          go_roundw
          case rel => exact ⟨m + 1, G', by omega, by go_num, by exact_mod_cast HI', H8.out⟩
          case measure => simp [intOf]; omega
      case rest =>
      obtain ⟨m, G, hgv, hcut⟩ := hcut
      have H9 := Lib.hid hcut
      have HGV := Lib.hid hgv
      clear hcut hgv H6 HG0
      rename World => v9
      refine HK.out _ _ ?_
      clear HK K
      apply wp_seq_k
      intro K hK
      have HK := Lib.hid hK
      clear hK
      obtain ⟨⟨a', b', c'⟩, ht⟩ : ∃ t, tre p G = t := ⟨_, rfl⟩
      have HT := Lib.hid ht
      clear ht
      (try dsimp only [Act.put]); (try simp only [List.setIfInBounds_toArray, List.set_cons_zero, List.set_cons_succ])
      go_cut [] from 36 to 119 (fun wx => Blk.Bks u [(gw, #[I a', I b', I c'], 27), (ga, G.cells.toArray, 29), (gx, p.cells.toArray, 23)] wx)
      case first =>
        have kd : v9.cell? ⟨ga, 7, none⟩ = some (.bool G.dn) := H9.out.cell 1 7 rfl rfl
        obtain ⟨g1, g2, g3, g4, g5, g6, g7, g8⟩ := HGV.out
        have ht := HT.out
        unfold tre at ht
        rw [g2, g3, g4] at ht
        cases hd : G.dn
        · rw [hd, if_neg (by simp)] at ht
          injection ht with e1 e2 e3'
          rw [hd] at kd
          go_wp2_with fail
          go_meet
          case rel => rw [← e1, ← e2, ← e3']; exact H9.out
        obtain ⟨g9, ga'⟩ := g8 hd
        rw [hd, if_pos rfl] at ht
        rw [hd] at kd
        have GR : Hid (∀ W, Calls Try.prog 20 #[.agg p.cells.toArray, .agg #[I ta, I tb', I tc], .bool G.mx] W fun e w' => e = .returned (.agg #[I a', I b', I c']) ∧ Below W.heap.size W w') := Lib.hid (fun W => Gap.rgrow_is ht W)
        clear ht hd
        go_upto_region 17 with fail
        clear kd
        have km : v9.cell? ⟨ga, 8, none⟩ = some (.bool G.mx) := H9.out.cell 1 8 rfl rfl
        go_wp2_with (first | (refine Row.wpList_load_g 23 _ rfl (by first | rfl | (go_simp; done) | fail) ⟨gx, 0, none⟩ rfl p.cells _ (seg H9.out 2 0 rfl _ rfl) Try.underlying23 rfl infoP ?_) | (refine Row.wpList_load_g 27 _ rfl (by first | rfl | (go_simp; done) | fail) ⟨gw, 0, none⟩ rfl [I ta, I tb', I tc] _ (seg H9.out 0 0 rfl _ rfl) Try.underlying27 rfl infoTn ?_))
        refine (GR.out _).mono ?_
        rintro e vn ⟨rfl, bc⟩
        have HN := Lib.hid (H9.out.step bc)
        clear bc
        go_upto_region 18 with (refine wpList_store_row rfl 27 _ _ rfl gw #[I a', I b', I c'] rfl rfl 27 _ (HN.out.at 0 rfl) infoTn rfl (by simp [Value.oneCell']) ?_)
        have hput := HN.out.put 0 rfl #[I a', I b', I c']
        simp only [List.set_cons_succ, List.set_cons_zero] at hput
        generalize World.setRow vn gw _ = va at hput ⊢
        have HC := Lib.hid hput
        clear hput
        clear HN GR km
        (try dsimp only [Act.put]); (try simp only [List.setIfInBounds_toArray, List.set_cons_zero, List.set_cons_succ])
        obtain ⟨l, hl5⟩ : ∃ l, Gap.lm p ta = l := ⟨_, rfl⟩
        obtain ⟨mx, hmx⟩ : ∃ x, G.mx = x := ⟨_, rfl⟩
        obtain ⟨gp, hgp⟩ : ∃ x, p.gap = x := ⟨_, rfl⟩
        obtain ⟨tm, htm⟩ : ∃ x, G.tm = x := ⟨_, rfl⟩
        have LM : Hid (∀ W, Calls Try.prog 21 #[.agg p.cells.toArray, .agg #[I ta, I tb', I tc]] W fun e w' => e = .returned (.int .i64 l) ∧ Below W.heap.size W w') := Lib.hid (fun W => by rw [← hl5]; exact Gap.rlim_any p _ _ _ W)
        have q8 : ∀ q : QB.By va.heap.size va, q.world.cell? ⟨ga, 8, none⟩ = some (.bool G.mx) := fun q => (HC.out.by q).cell 1 8 rfl rfl
        have q1 : ∀ q : QB.By va.heap.size va, q.world.cell? ⟨ga, 1, none⟩ = some (I G.tm) := fun q => (HC.out.by q).cell 1 1 rfl rfl
        have q2 : ∀ q : QB.By va.heap.size va, q.world.cell? ⟨gx, 2, none⟩ = some (I p.gap) := fun q => (HC.out.by q).cell 2 2 rfl rfl
        rw [hmx] at q8 g9 ga'
        rw [htm] at q1 g5
        rw [hgp] at q2 ga'
        rw [hl5] at g9
        have LT : Hid (∀ r : QB.By va.heap.size va, Lies r.world ⟨ga, 9, none⟩ [I ta, I tb', I tc]) := Lib.hid (fun r => by have := seg (HC.out.by r) 1 9 rfl [I G.tl, I G.tu, I G.td] rfl; rwa [g2, g3, g4] at this)
        clear hmx htm hgp hl5 g1 g2 g3 g4
        cases lg
        · cases mx
          · clear g9 ga'
            refine QB.region_below va.heap.size (by kernel_rfl) (by kernel_rfl) ?_
            refine Wq.W.out ?_
            refine Wq.want (by kernel_rfl) (fun K hK => ?_)
            go_big_quiet_op
            refine hK _ ?_
            clear hK K
            refine Wq.want (by kernel_rfl) (fun K hK => ?_)
            go_big_quiet_op
            refine hK _ ?_
            clear hK K
            refine Wq.want (by kernel_rfl) (fun K hK => ?_)
            go_big_quiet_op
            refine hK _ ?_
            clear hK K
            refine Wq.want (by kernel_rfl) (fun K hK => ?_)
            go_big_quiet_op
            refine hK _ ?_
            clear hK K
            refine Wq.skip (by kernel_rfl) ?_
            dsimp only [Act.put]
            simp only [List.setIfInBounds_toArray, List.set_cons_zero, List.set_cons_succ]
            refine Wq.skip (by kernel_rfl) ?_
            dsimp only [Act.put]
            simp only [List.setIfInBounds_toArray, List.set_cons_zero, List.set_cons_succ]
            refine Wq.skip (by kernel_rfl) ?_
            dsimp only [Act.put]
            simp only [List.setIfInBounds_toArray, List.set_cons_zero, List.set_cons_succ]
            refine Wq.want (by kernel_rfl) (fun K hK => ?_)
            go_big_quiet_op
            refine hK _ ?_
            clear hK K
            refine Wq.want (by kernel_rfl) (fun K hK => ?_)
            go_big_quiet_op
            refine hK _ ?_
            clear hK K
            (try simp only [bne_self_eq_false, Bool.bne_false, Bool.bne_true, Bool.false_bne, Bool.true_bne, Bool.not_false, Bool.not_true])
            refine Wq.want (by kernel_rfl) (fun K hK => ?_)
            go_big_quiet_op
            refine hK _ ?_
            clear hK K
            refine Wq.skip (by kernel_rfl) ?_
            dsimp only [Act.put]
            simp only [List.setIfInBounds_toArray, List.set_cons_zero, List.set_cons_succ]
            refine Wq.skip (by kernel_rfl) ?_
            dsimp only [Act.put]
            simp only [List.setIfInBounds_toArray, List.set_cons_zero, List.set_cons_succ]
            refine Wq.skip (by kernel_rfl) ?_
            dsimp only [Act.put]
            simp only [List.setIfInBounds_toArray, List.set_cons_zero, List.set_cons_succ]
            refine Wq.skip (by kernel_rfl) ?_
            dsimp only [Act.put]
            simp only [List.setIfInBounds_toArray, List.set_cons_zero, List.set_cons_succ]
            refine Wq.skip (by kernel_rfl) ?_
            dsimp only [Act.put]
            simp only [List.setIfInBounds_toArray, List.set_cons_zero, List.set_cons_succ]
            refine Wq.skip (by kernel_rfl) ?_
            dsimp only [Act.put]
            simp only [List.setIfInBounds_toArray, List.set_cons_zero, List.set_cons_succ]
            refine Wq.skip (by kernel_rfl) ?_
            dsimp only [Act.put]
            simp only [List.setIfInBounds_toArray, List.set_cons_zero, List.set_cons_succ]
            refine Wq.want (by kernel_rfl) (fun K hK => ?_)
            go_big_quiet_op
            refine hK _ ?_
            clear hK K
            refine Wq.nil ?_
            intro _ hw'
            obtain ⟨pq, rfl⟩ := hw'
            have HP := Lib.hid (HC.out.by pq)
            generalize pq.world = vb at HP ⊢
            go_wp2_with fail
            go_meet
            case rel => exact HP.out
          · have hg := g9 rfl
            have d1 : decide (tm < l) = false := decide_eq_false (by omega)
            have d2 : ¬ tm < l := by omega
            clear g9 ga' hg
            refine QB.region_below va.heap.size (by kernel_rfl) (by kernel_rfl) ?_
            refine Wq.W.out ?_
            refine Wq.want (by kernel_rfl) (fun K hK => ?_)
            go_big_quiet_op
            refine hK _ ?_
            clear hK K
            refine Wq.want (by kernel_rfl) (fun K hK => ?_)
            go_big_quiet_op
            refine hK _ ?_
            clear hK K
            refine Wq.want (by kernel_rfl) (fun K hK => ?_)
            go_big_quiet_op
            refine hK _ ?_
            clear hK K
            refine Wq.want (by kernel_rfl) (fun K hK => ?_)
            go_big_quiet_op
            refine hK _ ?_
            clear hK K
            refine Wq.skip (by kernel_rfl) ?_
            dsimp only [Act.put]
            simp only [List.setIfInBounds_toArray, List.set_cons_zero, List.set_cons_succ]
            refine Wq.skip (by kernel_rfl) ?_
            dsimp only [Act.put]
            simp only [List.setIfInBounds_toArray, List.set_cons_zero, List.set_cons_succ]
            refine Wq.skip (by kernel_rfl) ?_
            dsimp only [Act.put]
            simp only [List.setIfInBounds_toArray, List.set_cons_zero, List.set_cons_succ]
            refine Wq.want (by kernel_rfl) (fun K hK => ?_)
            go_big_quiet_op
            refine hK _ ?_
            clear hK K
            refine Wq.want (by kernel_rfl) (fun K hK => ?_)
            go_big_quiet_op
            refine hK _ ?_
            clear hK K
            (try simp only [bne_self_eq_false, Bool.bne_false, Bool.bne_true, Bool.false_bne, Bool.true_bne, Bool.not_false, Bool.not_true])
            refine Wq.want (by kernel_rfl) (fun K hK => ?_)
            go_big_quiet_op
            refine hK _ ?_
            clear hK K
            refine Wq.want (by kernel_rfl) (fun K hK => ?_)
            go_big_quiet_op
            refine hK _ ?_
            clear hK K
            refine Wq.want (by kernel_rfl) (fun K hK => ?_)
            go_big_quiet_op
            refine hK _ ?_
            clear hK K
            refine Wq.load (by kernel_rfl) 23 _ rfl ⟨gx, 0, none⟩ rfl p.cells _ (fun w' ⟨pw, e⟩ => by rw [e]; exact seg (HC.out.by pw) 2 0 rfl _ rfl) Try.underlying23 rfl infoP ?_
            dsimp only [Act.put]
            simp only [List.setIfInBounds_toArray, List.set_cons_zero, List.set_cons_succ]
            refine Wq.want (by kernel_rfl) (fun K hK => ?_)
            go_big_quiet_op
            refine hK _ ?_
            clear hK K
            refine Wq.load (by kernel_rfl) 27 _ rfl ⟨ga, 9, none⟩ rfl [I ta, I tb', I tc] _ (fun w' ⟨pw, e⟩ => by rw [e]; exact LT.out pw) Try.underlying27 rfl infoTn ?_
            dsimp only [Act.put]
            simp only [List.setIfInBounds_toArray, List.set_cons_zero, List.set_cons_succ]
            refine Wq.want (by kernel_rfl) (fun K hK => ?_)
            go_big_quiet_op
            apply Exists.intro
            refine ⟨fun _ => ?_, ?_⟩
            · (go_at_call 21; with_reducible exact QB.call_of (Nat.le_refl _) (fun b => LM.out _))
            refine hK _ ?_
            clear hK K
            refine Wq.want (by kernel_rfl) (fun K hK => ?_)
            go_big_quiet_op
            refine hK _ ?_
            clear hK K
            refine Wq.want (by kernel_rfl) (fun K hK => ?_)
            go_big_quiet_op
            refine hK _ ?_
            clear hK K
            refine Wq.nil ?_
            intro _ hw'
            obtain ⟨pq, rfl⟩ := hw'
            have HP := Lib.hid (HC.out.by pq)
            generalize pq.world = vb at HP ⊢
            go_wp2_with fail
            go_meet
            case rel => exact HP.out
        by_cases hp0 : 0 < gp
        · obtain rfl : mx = true := ga' rfl hp0
          have d0 : decide (gp > 0) = true := decide_eq_true hp0
          have d00 : decide (0 < gp) = true := decide_eq_true hp0
          clear g9 ga'
          refine QB.region_below va.heap.size (by kernel_rfl) (by kernel_rfl) ?_
          refine Wq.W.out ?_
          refine Wq.want (by kernel_rfl) (fun K hK => ?_)
          go_big_quiet_op
          refine hK _ ?_
          clear hK K
          refine Wq.want (by kernel_rfl) (fun K hK => ?_)
          go_big_quiet_op
          refine hK _ ?_
          clear hK K
          refine Wq.want (by kernel_rfl) (fun K hK => ?_)
          go_big_quiet_op
          refine hK _ ?_
          clear hK K
          refine Wq.want (by kernel_rfl) (fun K hK => ?_)
          go_big_quiet_op
          refine hK _ ?_
          clear hK K
          refine Wq.want (by kernel_rfl) (fun K hK => ?_)
          go_big_quiet_op
          refine hK _ ?_
          clear hK K
          refine Wq.want (by kernel_rfl) (fun K hK => ?_)
          go_big_quiet_op
          refine hK _ ?_
          clear hK K
          refine Wq.want (by kernel_rfl) (fun K hK => ?_)
          go_big_quiet_op
          refine hK _ ?_
          clear hK K
          refine Wq.want (by kernel_rfl) (fun K hK => ?_)
          go_big_quiet_op
          refine hK _ ?_
          clear hK K
          refine Wq.want (by kernel_rfl) (fun K hK => ?_)
          go_big_quiet_op
          refine hK _ ?_
          clear hK K
          (try simp only [bne_self_eq_false, Bool.bne_false, Bool.bne_true, Bool.false_bne, Bool.true_bne, Bool.not_false, Bool.not_true])
          refine Wq.want (by kernel_rfl) (fun K hK => ?_)
          go_big_quiet_op
          refine hK _ ?_
          clear hK K
          refine Wq.skip (by kernel_rfl) ?_
          dsimp only [Act.put]
          simp only [List.setIfInBounds_toArray, List.set_cons_zero, List.set_cons_succ]
          refine Wq.skip (by kernel_rfl) ?_
          dsimp only [Act.put]
          simp only [List.setIfInBounds_toArray, List.set_cons_zero, List.set_cons_succ]
          refine Wq.skip (by kernel_rfl) ?_
          dsimp only [Act.put]
          simp only [List.setIfInBounds_toArray, List.set_cons_zero, List.set_cons_succ]
          refine Wq.skip (by kernel_rfl) ?_
          dsimp only [Act.put]
          simp only [List.setIfInBounds_toArray, List.set_cons_zero, List.set_cons_succ]
          refine Wq.skip (by kernel_rfl) ?_
          dsimp only [Act.put]
          simp only [List.setIfInBounds_toArray, List.set_cons_zero, List.set_cons_succ]
          refine Wq.skip (by kernel_rfl) ?_
          dsimp only [Act.put]
          simp only [List.setIfInBounds_toArray, List.set_cons_zero, List.set_cons_succ]
          refine Wq.skip (by kernel_rfl) ?_
          dsimp only [Act.put]
          simp only [List.setIfInBounds_toArray, List.set_cons_zero, List.set_cons_succ]
          refine Wq.want (by kernel_rfl) (fun K hK => ?_)
          go_big_quiet_op
          refine hK _ ?_
          clear hK K
          refine Wq.nil ?_
          intro _ hw'
          obtain ⟨pq, rfl⟩ := hw'
          have HP := Lib.hid (HC.out.by pq)
          generalize pq.world = vb at HP ⊢
          go_wp2_with fail
          go_meet
          case rel => exact HP.out
        · have d0 : decide (gp > 0) = false := decide_eq_false hp0
          have d00 : decide (0 < gp) = false := decide_eq_false hp0
          cases mx
          · clear g9 ga'
            refine QB.region_below va.heap.size (by kernel_rfl) (by kernel_rfl) ?_
            refine Wq.W.out ?_
            refine Wq.want (by kernel_rfl) (fun K hK => ?_)
            go_big_quiet_op
            refine hK _ ?_
            clear hK K
            refine Wq.want (by kernel_rfl) (fun K hK => ?_)
            go_big_quiet_op
            refine hK _ ?_
            clear hK K
            refine Wq.want (by kernel_rfl) (fun K hK => ?_)
            go_big_quiet_op
            refine hK _ ?_
            clear hK K
            refine Wq.want (by kernel_rfl) (fun K hK => ?_)
            go_big_quiet_op
            refine hK _ ?_
            clear hK K
            refine Wq.want (by kernel_rfl) (fun K hK => ?_)
            go_big_quiet_op
            refine hK _ ?_
            clear hK K
            refine Wq.want (by kernel_rfl) (fun K hK => ?_)
            go_big_quiet_op
            refine hK _ ?_
            clear hK K
            refine Wq.want (by kernel_rfl) (fun K hK => ?_)
            go_big_quiet_op
            refine hK _ ?_
            clear hK K
            refine Wq.want (by kernel_rfl) (fun K hK => ?_)
            go_big_quiet_op
            refine hK _ ?_
            clear hK K
            refine Wq.want (by kernel_rfl) (fun K hK => ?_)
            go_big_quiet_op
            refine hK _ ?_
            clear hK K
            (try simp only [bne_self_eq_false, Bool.bne_false, Bool.bne_true, Bool.false_bne, Bool.true_bne, Bool.not_false, Bool.not_true])
            refine Wq.want (by kernel_rfl) (fun K hK => ?_)
            go_big_quiet_op
            refine hK _ ?_
            clear hK K
            refine Wq.skip (by kernel_rfl) ?_
            dsimp only [Act.put]
            simp only [List.setIfInBounds_toArray, List.set_cons_zero, List.set_cons_succ]
            refine Wq.skip (by kernel_rfl) ?_
            dsimp only [Act.put]
            simp only [List.setIfInBounds_toArray, List.set_cons_zero, List.set_cons_succ]
            refine Wq.skip (by kernel_rfl) ?_
            dsimp only [Act.put]
            simp only [List.setIfInBounds_toArray, List.set_cons_zero, List.set_cons_succ]
            refine Wq.skip (by kernel_rfl) ?_
            dsimp only [Act.put]
            simp only [List.setIfInBounds_toArray, List.set_cons_zero, List.set_cons_succ]
            refine Wq.skip (by kernel_rfl) ?_
            dsimp only [Act.put]
            simp only [List.setIfInBounds_toArray, List.set_cons_zero, List.set_cons_succ]
            refine Wq.skip (by kernel_rfl) ?_
            dsimp only [Act.put]
            simp only [List.setIfInBounds_toArray, List.set_cons_zero, List.set_cons_succ]
            refine Wq.skip (by kernel_rfl) ?_
            dsimp only [Act.put]
            simp only [List.setIfInBounds_toArray, List.set_cons_zero, List.set_cons_succ]
            refine Wq.want (by kernel_rfl) (fun K hK => ?_)
            go_big_quiet_op
            refine hK _ ?_
            clear hK K
            refine Wq.nil ?_
            intro _ hw'
            obtain ⟨pq, rfl⟩ := hw'
            have HP := Lib.hid (HC.out.by pq)
            generalize pq.world = vb at HP ⊢
            go_wp2_with fail
            go_meet
            case rel => exact HP.out
          · have hg := g9 rfl
            have d1 : decide (tm < l) = false := decide_eq_false (by omega)
            have d2 : ¬ tm < l := by omega
            clear g9 ga' hg
            refine QB.region_below va.heap.size (by kernel_rfl) (by kernel_rfl) ?_
            refine Wq.W.out ?_
            refine Wq.want (by kernel_rfl) (fun K hK => ?_)
            go_big_quiet_op
            refine hK _ ?_
            clear hK K
            refine Wq.want (by kernel_rfl) (fun K hK => ?_)
            go_big_quiet_op
            refine hK _ ?_
            clear hK K
            refine Wq.want (by kernel_rfl) (fun K hK => ?_)
            go_big_quiet_op
            refine hK _ ?_
            clear hK K
            refine Wq.want (by kernel_rfl) (fun K hK => ?_)
            go_big_quiet_op
            refine hK _ ?_
            clear hK K
            refine Wq.want (by kernel_rfl) (fun K hK => ?_)
            go_big_quiet_op
            refine hK _ ?_
            clear hK K
            refine Wq.want (by kernel_rfl) (fun K hK => ?_)
            go_big_quiet_op
            refine hK _ ?_
            clear hK K
            refine Wq.want (by kernel_rfl) (fun K hK => ?_)
            go_big_quiet_op
            refine hK _ ?_
            clear hK K
            refine Wq.want (by kernel_rfl) (fun K hK => ?_)
            go_big_quiet_op
            refine hK _ ?_
            clear hK K
            refine Wq.want (by kernel_rfl) (fun K hK => ?_)
            go_big_quiet_op
            refine hK _ ?_
            clear hK K
            (try simp only [bne_self_eq_false, Bool.bne_false, Bool.bne_true, Bool.false_bne, Bool.true_bne, Bool.not_false, Bool.not_true])
            refine Wq.want (by kernel_rfl) (fun K hK => ?_)
            go_big_quiet_op
            refine hK _ ?_
            clear hK K
            refine Wq.want (by kernel_rfl) (fun K hK => ?_)
            go_big_quiet_op
            refine hK _ ?_
            clear hK K
            refine Wq.want (by kernel_rfl) (fun K hK => ?_)
            go_big_quiet_op
            refine hK _ ?_
            clear hK K
            refine Wq.load (by kernel_rfl) 23 _ rfl ⟨gx, 0, none⟩ rfl p.cells _ (fun w' ⟨pw, e⟩ => by rw [e]; exact seg (HC.out.by pw) 2 0 rfl _ rfl) Try.underlying23 rfl infoP ?_
            dsimp only [Act.put]
            simp only [List.setIfInBounds_toArray, List.set_cons_zero, List.set_cons_succ]
            refine Wq.want (by kernel_rfl) (fun K hK => ?_)
            go_big_quiet_op
            refine hK _ ?_
            clear hK K
            refine Wq.load (by kernel_rfl) 27 _ rfl ⟨ga, 9, none⟩ rfl [I ta, I tb', I tc] _ (fun w' ⟨pw, e⟩ => by rw [e]; exact LT.out pw) Try.underlying27 rfl infoTn ?_
            dsimp only [Act.put]
            simp only [List.setIfInBounds_toArray, List.set_cons_zero, List.set_cons_succ]
            refine Wq.want (by kernel_rfl) (fun K hK => ?_)
            go_big_quiet_op
            apply Exists.intro
            refine ⟨fun _ => ?_, ?_⟩
            · (go_at_call 21; with_reducible exact QB.call_of (Nat.le_refl _) (fun b => LM.out _))
            refine hK _ ?_
            clear hK K
            refine Wq.want (by kernel_rfl) (fun K hK => ?_)
            go_big_quiet_op
            refine hK _ ?_
            clear hK K
            refine Wq.want (by kernel_rfl) (fun K hK => ?_)
            go_big_quiet_op
            refine hK _ ?_
            clear hK K
            refine Wq.nil ?_
            intro _ hw'
            obtain ⟨pq, rfl⟩ := hw'
            have HP := Lib.hid (HC.out.by pq)
            generalize pq.world = vb at HP ⊢
            go_wp2_with fail
            go_meet
            case rel => exact HP.out
      case rest =>
      have HD := Lib.hid hcut
      clear hcut H9
      rename World => vd
      refine HK.out _ _ ?_
      clear HK K
      have S3 : Hid (∀ W, Calls Try.prog 11 #[.agg p.cells.toArray, .agg G.cells.toArray, .agg (Cu.cells ⟨false, true, false, false, false, false, false, false⟩).toArray] W fun e w' => e = .returned (.agg (Ru.cells ⟨2, 1, 0, 0, 0, 0, 0, false, false, a', b', c'⟩).toArray) ∧ Below W.heap.size W w') := Lib.hid (fun W => by have := step_any p G ⟨false, true, false, false, false, false, false, false⟩ W; rwa [gv_end HGV.out HT.out] at this)
      go_wp2_with (first | (refine Row.wpList_load_g 23 _ rfl (by first | rfl | (go_simp; done) | fail) ⟨gx, 0, none⟩ rfl p.cells _ (seg HD.out 2 0 rfl _ rfl) Try.underlying23 rfl infoP ?_) | (refine Row.wpList_load_g 29 _ rfl (by first | rfl | (go_simp; done) | fail) ⟨ga, 0, none⟩ rfl G.cells _ (seg HD.out 1 0 rfl _ rfl) Try.underlying29 rfl infoRu ?_) | (refine wpList_build rfl 31 [(1, .const (.bool true))] rfl (Cu.cells ⟨false, true, false, false, false, false, false, false⟩).toArray _ (by rfl) (builtE) ?_))
      refine (S3.out _).mono ?_
      rintro e ve ⟨rfl, bc⟩
      have HE := Lib.hid (HD.out.step bc)
      clear bc
      go_upto_region 21 with (refine wpList_store_row rfl 29 _ _ rfl ga (Ru.cells ⟨2, 1, 0, 0, 0, 0, 0, false, false, a', b', c'⟩).toArray rfl rfl 29 _ (HE.out.at 1 rfl) infoRu rfl (one_ru _) ?_)
      have hput := HE.out.put 1 rfl (Ru.cells ⟨2, 1, 0, 0, 0, 0, 0, false, false, a', b', c'⟩).toArray
      simp only [List.set_cons_succ, List.set_cons_zero] at hput
      generalize World.setRow ve ga _ = vf at hput ⊢
      have HF := Lib.hid hput
      clear hput
      clear HD HE S3 HGV HT
      go_wp2_with (first | (refine Row.wpList_load_g 27 _ rfl (by first | rfl | (go_simp; done) | fail) ⟨ga, 9, none⟩ rfl [I a', I b', I c'] _ (seg HF.out 1 9 rfl _ rfl) Try.underlying27 rfl infoTn ?_) | (refine Row.wpList_load_g 27 _ rfl (by first | rfl | (go_simp; done) | fail) ⟨gw, 0, none⟩ rfl [I a', I b', I c'] _ (seg HF.out 0 0 rfl _ rfl) Try.underlying27 rfl infoTn ?_) | (refine Row.wpList_neq 27 _ _ _ rfl (by rfl) #[I a', I b', I c'] #[I a', I b', I c'] rfl rfl Gap.guardTn true (Gap.tn_eqs _ _ _) ?_))
      go_loopw [14] (fun i wr => ∃ (m : Nat) (G : Ru), m ≤ 40 ∧ i = .int .i64 m ∧ Hid (Yv p a' b' c' m G) ∧ Blk.Bks u [(gw, #[I a', I b', I c'], 27), (ga, G.cells.toArray, 29), (gx, p.cells.toArray, 23)] wr) (fun i _ => 40 - (intOf i).toNat)
      case atStart => exact ⟨0, _, by omega, rfl, Lib.hid ⟨rfl, rfl, rfl, .inr (.inl ⟨rfl, rfl, by show (1 : Int) ≤ p.yellow; have := PG2.out.yellow; omega⟩)⟩, HF.out⟩
      case round =>
        obtain ⟨m, G, hm, rfl, HI, hB⟩ := hrel
        have HB := Lib.hid hB
        clear hB HF
        rename World => wr
        by_cases hlm : m < 40
        rotate_left
        · obtain rfl : m = 40 := by omega
          have HC0 := Lib.hid (yv_end PG2.out HI.out (by omega))
          go_wp2_with fail
          go_roundw
          case rel => exact ⟨q + 1, G, by omega, by go_num, HC0.out, by have := HB.out; rw [HI.out.1, HI.out.2.1, HI.out.2.2.1]; exact this⟩
          case measure => simp [intOf]; omega
        have kc : wr.cell? ⟨ga, 0, none⟩ = some (I G.co) := HB.out.cell 1 0 rfl rfl
        by_cases hc0 : G.co = 0
        · rw [hc0] at kc
          have HC0 := Lib.hid hc0
          clear hc0
          go_wp2_with fail
          go_roundw
          case rel => exact ⟨q + 1, G, by omega, by go_num, HC0.out, by have := HB.out; rw [HI.out.1, HI.out.2.1, HI.out.2.2.1]; exact this⟩
          case measure => simp [intOf]; omega
        obtain ⟨G', hG'⟩ : ∃ D', stp p G ⟨false, false, false, false, false, false, false, false⟩ = D' := ⟨_, rfl⟩
        have HI' : Hid (Yv p a' b' c' (m + 1) G') := Lib.hid (by rw [← hG']; exact yv1 PG2.out HI.out (by omega) hc0)
        have S4 : Hid (∀ W, Calls Try.prog 11 #[.agg p.cells.toArray, .agg G.cells.toArray, .agg (Cu.cells ⟨false, false, false, false, false, false, false, false⟩).toArray] W fun e w' => e = .returned (.agg G'.cells.toArray) ∧ Below W.heap.size W w') := Lib.hid (fun W => by rw [← hG']; exact step_any p G ⟨false, false, false, false, false, false, false, false⟩ W)
        clear hG' HI
        generalize G.co = k0 at kc hc0
        have z0 : (k0 == 0) = false := by rw [beq_eq_false_iff_ne]; exact hc0
        have z1 : (k0 != 0) = true := by rw [bne_iff_ne]; exact hc0
        go_upto_region 26 with fail
        clear kc hc0 z0 z1
        go_wp2_with (first | (refine Row.wpList_load_g 23 _ rfl (by first | rfl | (go_simp; done) | fail) ⟨gx, 0, none⟩ rfl p.cells _ (seg HB.out 2 0 rfl _ rfl) Try.underlying23 rfl infoP ?_) | (refine Row.wpList_load_g 29 _ rfl (by first | rfl | (go_simp; done) | fail) ⟨ga, 0, none⟩ rfl G.cells _ (seg HB.out 1 0 rfl _ rfl) Try.underlying29 rfl infoRu ?_) | (refine wpList_build rfl 31 [] rfl (Cu.cells ⟨false, false, false, false, false, false, false, false⟩).toArray [] rfl builtN ?_))
        refine (S4.out _).mono ?_
        rintro e v7 ⟨rfl, bc⟩
        have H7 := Lib.hid (HB.out.step bc)
        clear bc
        go_upto_region 25 with (refine wpList_store_row rfl 29 _ _ rfl ga G'.cells.toArray rfl rfl 29 _ (H7.out.at 1 rfl) infoRu rfl (one_ru _) ?_)
        have hput := H7.out.put 1 rfl G'.cells.toArray
        simp only [List.set_cons_succ, List.set_cons_zero] at hput
        generalize World.setRow v7 ga _ = v8 at hput ⊢
        have H8 := Lib.hid hput
        clear hput
        clear H7 HB S4
        go_wp2_with fail
        go_roundw
        case rel => exact ⟨m + 1, G', by omega, by go_num, by exact_mod_cast HI', H8.out⟩
        case measure => simp [intOf]; omega
    · obtain rfl : q = len := by omega
      go_wp2_with (first | (refine Row.wpList_load_g 27 _ rfl (by first | rfl | (go_simp; done) | fail) ⟨ga, 9, none⟩ rfl [I D.tl, I D.tu, I D.td] _ (seg HB.out 1 9 rfl _ rfl) Try.underlying27 rfl infoTn ?_) | (refine Row.wpList_load_g 27 _ rfl (by first | rfl | (go_simp; done) | fail) ⟨gw, 0, none⟩ rfl [I D.tl, I D.tu, I D.td] _ (seg HB.out 0 0 rfl _ rfl) Try.underlying27 rfl infoTn ?_) | (refine Row.wpList_eql 27 _ _ _ rfl (by rfl) #[I D.tl, I D.tu, I D.td] #[I D.tl, I D.tu, I D.td] rfl rfl Gap.guardTn true (Gap.tn_eqs _ _ _) ?_))
      refine (awake_any _).mono ?_
      rintro e u9 ⟨rfl, b9⟩
      go_wp2
      go_ret
      exact ⟨rfl, A0.out.trans ((HB.out.step b9).bel.mono A0.out.size)⟩
/-! ### the row's step -/
theorem lifted (os : Os) (started : os.Started) (H : Type) (enc : TypeId × Value → H) :
    ReturnsInHanded {} Try.checked os 8 .any (Rows.phaseGrowsSpec.pre6 enc Try.prog Try.f8 Rows.phaseGrowsRow.domain false) (Rows.phaseGrowsSpec.post enc Try.prog Try.f8 false true false false) := by
  refine returnsInHanded_of_change (C := Try.checked) own started (by kernel_rfl) Try.func8
    (ChangeSpec.witness6 (enc := enc) (C := Try.checked) false ⟨#[], #[.slice none 0 0, .int .i64 0, .slice none 0 0], []⟩ 8 (by kernel_rfl) (by kernel_rfl) (by kernel_rfl) (by kernel_rfl)) ?_
  intro W base args ds gs before hval0 hW hcnd _
  have hval : ∀ (j : Nat) t v, Try.f8.params[j]? = some t → args[j]? = some v → Value.okWide Try.prog W .any base t v := hval0
  have hW' := hW
  obtain ⟨p, q, hA0, hV, rfl, hfz, hnd⟩ := hW
  have hA : DataW.TrodAll enc Try.prog W 0 (fun _ => true) true Try.f8.params.toList args.toList ds p := hA0
  rw [Try.params8] at hA hval
  obtain ⟨v0, vs0, d0, ds0, p0, q0, hargs, rfl, rfl, h0, r0⟩ := trodAll_cons hA
  obtain ⟨v1, vs1, d1, ds1, p1, q1, rfl, rfl, rfl, h1, r1⟩ := trodAll_cons r0
  obtain ⟨v2, vs2, d2, ds2, p2, q2, rfl, rfl, rfl, h2, r2⟩ := trodAll_cons r1
  obtain ⟨rfl, rfl, rfl⟩ := trodAll_nil r2
  obtain rfl : args = #[v0, v1, v2] := by cases args; simp_all
  obtain ⟨rfl, rfl⟩ := trodVars_none hV
  obtain ⟨a0, len0, cap0, rfl⟩ := okWide_slice Try.underlying37 (hval 0 37 v0 rfl rfl)
  have k0 := h0
  have lt0 : ∀ x ∈ p0, x.block < W.heap.size := by obtain ⟨m, hm⟩ := k0; exact DataW.trod_lt m _ _ _ hm
  obtain ⟨z0, w0⟩ : ∃ zs, IsRow .i64 W a0 len0 cap0 zs := by
    obtain ⟨fuel, hf⟩ := h0
    rcases open_ints Try.underlying37 Try.underlying3 (by kernel_rfl) hf with ⟨hcs, _⟩ | ⟨x, l, c, zs, hcs, _, hl, hm, hz, _, hcell, hwz⟩
    · simp [Value.cells] at hcs
      obtain ⟨rfl, rfl, rfl⟩ := hcs
      exact ⟨[], .inl ⟨rfl, rfl, rfl, rfl⟩⟩
    · simp [Value.cells] at hcs
      obtain ⟨rfl, rfl, rfl⟩ := hcs
      exact ⟨zs, .inr ⟨_, rfl, hl, hm, by simpa using hz, hcell, hwz⟩⟩
  obtain ⟨a1, rfl, rfl, rfl, w1⟩ := open_int Try.underlying3 (hval 1 3 v1 rfl rfl) h1
  obtain ⟨a2, len2, cap2, rfl⟩ := okWide_slice Try.underlying37 (hval 2 37 v2 rfl rfl)
  have k2 := h2
  have lt2 : ∀ x ∈ p2, x.block < W.heap.size := by obtain ⟨m, hm⟩ := k2; exact DataW.trod_lt m _ _ _ hm
  obtain ⟨s2, l2, e2, w2⟩ : ∃ (s : Tab.Sl) (l : List Int), Value.slice a2 len2 cap2 = s.val l.length ∧ Tab.RowOf 1 (fun n : Int => [Tab.I n]) W s l := by
    obtain ⟨fuel, hf⟩ := h2
    obtain ⟨s, l, e, r, _⟩ := TabArg.tr_row (k := 1) (f := (fun n : Int => [Tab.I n])) (p := fun _ => True) Try.underlying37 (by kernel_rfl) (fun n cs x hx => by obtain ⟨z, hz, _⟩ := DataW.trod_int Try.underlying3 hx; exact ⟨z, hz, trivial⟩) ⟨fuel, _, hf⟩
    exact ⟨s, l, e, r⟩
  simp only [Tab.Sl.val, Value.slice.injEq] at e2
  obtain ⟨rfl, rfl, rfl⟩ := e2
  clear hA0 hval0
  refine (walk a0 len0 cap0 z0 a1 s2 l2 W w0 w1 w2).mono fun e W' ⟨he, bel⟩ => ?_
  subst he
  exact ⟨_, rfl, _, _, _, [], _, [], hW', trodAll_mk1 (shut_bool Try.underlying4 _), (trodAll_cons_mk (Below.trod laidOut (by kernel_rfl) (of_decide_eq_true (by kernel_rfl)) k0 bel lt0) (trodAll_cons_mk (shut_int Try.underlying3 w1) (trodAll_cons_mk (Below.trod laidOut (by kernel_rfl) (of_decide_eq_true (by kernel_rfl)) k2 bel lt2) trodAll_mk0))), rfl, bel.frame _, fun h => by cases h⟩
theorem over : Rows.phaseGrowsRow.holds Try.pinned (OpenSpec.ofChange Rows.phaseGrowsSpec) :=
  OpenClaim.holds_of_wide 8 Try.f8 rfl rfl rfl rfl rfl rfl rfl ⟨rfl, rfl, rfl, rfl, rfl⟩ rfl rfl rfl rfl rfl (by kernel_rfl) Try.func8 (by kernel_rfl)
    (of_decide_eq_true (by kernel_rfl)) (by unfold Func.isWrapper; first | (rw [if_pos (by decide +kernel)]; kernel_rfl) | (rw [if_neg (by decide +kernel)]; exact ⟨rfl, rfl⟩))
    (fun os started H enc _ => lifted os started H enc)
/-- the statement -/
theorem proved : Rows.PhaseGrowsSaid :=
  over
#print axioms proved
end phaseGrows
end Go.Proofs.Ytbpfknkbiaplpaa
