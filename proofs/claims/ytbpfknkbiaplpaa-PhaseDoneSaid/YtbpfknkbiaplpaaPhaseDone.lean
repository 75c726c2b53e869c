/- PhaseDone returns true at any numbers of a table, any place and any row of cues: a green that is Done has had its least time, nobody is on foot, and it stays Done but where a walk begins. No condition. -/
import Derived.Test.YtbpfknkbiaplpaaRows
import Derived.Test.YtbpfknkbiaplpaaPart05
import Derived.Test.YtbpfknkbiaplpaaPart01
import Derived.Deep.Cut
import Derived.LoopTactic
import Derived.BigQuiet
import Derived.Test.YtbpfknkbiaplpaaPart09
import Derived.Test.YtbpfknkbiaplpaaPart10
import Derived.Deep.CutRange
import Derived.WalkKit
import Derived.WalkLawsBesides
import Derived.ProofKit
import Derived.OpenShut
import Derived.ShutString
import Derived.ChangeOld
import Derived.Below
set_option linter.unusedVariables false
set_option linter.unusedSimpArgs false
set_option linter.unusedSectionVars false
set_option maxHeartbeats 8000000
set_option maxRecDepth 100000
namespace Go.Proofs.Ytbpfknkbiaplpaa
namespace phaseDone
open Go.ChangeShapes Go.WideShapes Go.ChangeAt Go.RowKit
open Tab Ru QL
open May (infoP)
open Ped (infoFt)
open Gap (infoTn)
open GenT (genTab)
theorem own : ownKnob Try.prog.godebug = none := by kernel_rfl
theorem laidOut : laidOutB Try.prog = true := by kernel_rfl
/-- WHAT THE WALK IS TOLD OF A SLICE OF INTEGERS THAT CAME IN: it is nil; or it leads to a row of 'cap' cells, the numbers 'zs' (the first 'len' are its elements, the rest its spare room), each fitting its kind. -/
def IsRow (k : IntKind) (w : World) (a : Option Addr) (len cap : Nat) (zs : List Int) : Prop :=
  (a = none ∧ len = 0 ∧ cap = 0 ∧ zs = []) ∨
  ∃ x, a = some x ∧ len ≤ cap ∧ cap ≤ maxLen ∧ zs.length = cap ∧ (∀ i, i < zs.length → w.cell? (x.add i) = some (.int k (zs.getD i 0))) ∧ ∀ n ∈ zs, (Lit.int k n).wf = true
theorem isRow_int {w : World} {a : Option Addr} {len cap : Nat} {zs : List Int} (h : IsRow .i64 w a len cap zs) : (zs.take len).length = len ∧ Tab.IntRow w ⟨a, cap⟩ (zs.take len) := by
  rcases h with ⟨rfl, rfl, rfl, rfl⟩ | ⟨x, rfl, h1, h2, h3, h4, _⟩
  · exact ⟨rfl, .inl ⟨rfl, rfl, rfl⟩⟩
  · have hl : (zs.take len).length = len := by rw [List.length_take]; omega
    refine ⟨hl, .inr ⟨x, rfl, by rw [hl]; exact h1, h2, fun i v hv j u hu => ?_⟩⟩
    have hi : i < len := by have := (List.getElem?_eq_some_iff.1 hv).1; omega
    match j, hu with
    | 0, hu =>
      simp at hu
      subst hu
      rw [List.getElem?_take, if_pos hi] at hv
      have := h4 i (by omega)
      rw [List.getD_eq_getElem?_getD, hv] at this
      rw [Nat.mul_one, Tab.add_two, Nat.add_zero]
      exact this
    | j + 1, hu => simp at hu
/-- What is known of a run ahead of a tick. -/
def Jv (p : Ph) (D : Ru) : Prop := (D.dn = true → D.co = 1 ∧ p.min ≤ D.tm ∧ D.fs = 0 ∧ D.ft = 0) ∧ (D.mx = true → D.dn = true)
theorem more_ge {n a : Int} (h : a ≤ n) (ha : a ≤ 10000) : a ≤ Cnt.more n := by unfold Cnt.more Cnt.ct; split <;> (try split) <;> omega
theorem ft_idle {k l s t : Int} {b : Bool} (h : Ped.idl (Ped.ft k l s t b).st = true) : Ped.ft k l s t b = ⟨0, 0⟩ := by
  revert h
  unfold Ped.ft
  split
  · split <;> intro h <;> simp [Ped.idl] at h
  · split
    · split
      · intro _; rfl
      · intro h; simp [Ped.idl] at h
    · split
      · intro h; simp [Ped.idl] at h
      · intro _; rfl
def wks (c : Cu) (D : Ru) : Bool := c.pu && (!c.ps && decide (D.fs = 1 ∧ D.ft = 1))
theorem no_dn {p : Ph} {D : Ru} (h : D.dn = false) (h2 : D.mx = false) : Jv p D := ⟨fun e => (by rw [h] at e; cases e), fun e => (by rw [h2] at e; cases e)⟩
theorem tickD {p : Ph} {D : Ru} (hp : GenQ.Rng p) (h : Jv p D) (c : Cu) (hk : c.kt = false) :
    Jv p (stp p D c) ∧ (D.dn = true → c.en = false → (stp p D c).dn = !wks c (stp p D c)) ∧ ((stp p D c).dn = true → D.dn = false → c.ps = true ∧ c.ho = false) := by
  by_cases hco : D.co = 1
  rotate_left
  · have hd : D.dn = false := by cases hx : D.dn; rfl; exact absurd (h.1 hx).1 hco
    have hz : (stp p D c).dn = false ∧ (stp p D c).mx = false := by
      unfold stp
      rw [if_neg hco]
      split
      · unfold yel; split; exact ⟨rfl, rfl⟩; split <;> exact ⟨rfl, rfl⟩
      · split
        · unfold cle; split <;> exact ⟨rfl, rfl⟩
        · unfold rdR; split <;> exact ⟨rfl, rfl⟩
    exact ⟨no_dn hz.1 hz.2, fun e => (by rw [hd] at e; cases e), fun e => (by rw [hz.1] at e; cases e)⟩
  cases hen : c.en
  rotate_left
  · have hz : (stp p D c).dn = false ∧ (stp p D c).mx = false := by
      unfold stp
      rw [if_pos hco, hen]
      exact ⟨rfl, rfl⟩
    exact ⟨no_dn hz.1 hz.2, fun _ e => (by cases e), fun e => (by rw [hz.1] at e; cases e)⟩
  have es : stp p D c = sty p c (lon p D c) := by unfold stp; rw [if_pos hco, hen]; rfl
  rw [es]
  have hf : fooA p D c = Ped.ft p.walk p.blinks D.fs D.ft (c.pu && !c.ps) := by unfold fooA; rw [hk]; rfl
  cases hd : D.dn
  · have hm : D.mx = false := by cases hx : D.mx; rfl; rw [h.2 hx] at hd; cases hd
    have n1 : (lon p D c).dn = false := by unfold lon; simp [hd]
    have n2 : (lon p D c).mx = false := by unfold lon; simp [hm]
    have n3 : (lon p D c).co = 1 := hco
    unfold sty
    cases hu : duB p c (lon p D c)
    · rw [if_neg (by simp)]
      exact ⟨no_dn n1 n2, (fun e => by cases e), fun e => by rw [n1] at e; cases e⟩
    rw [if_pos rfl]
    have hu2 := hu
    unfold duB at hu2
    simp only [Bool.and_eq_true, decide_eq_true_eq] at hu2
    cases hh : c.ho
    · rw [if_neg (by simp)]
      have hi : (lon p D c).fs = 0 ∧ (lon p D c).ft = 0 := by
        have := hu2.2.2.2.1
        have e1 : (lon p D c).fs = (fooA p D c).st := rfl
        have e2 : (lon p D c).ft = (fooA p D c).tm := rfl
        rw [e1, hf] at this
        rw [e1, e2, hf, ft_idle this]
        exact ⟨rfl, rfl⟩
      exact ⟨⟨fun _ => ⟨n3, hu2.2.2.1, hi⟩, fun _ => rfl⟩, (fun e => by cases e), fun _ _ => ⟨hu2.1, rfl⟩⟩
    · rw [if_pos rfl]
      exact ⟨no_dn n1 n2, (fun e => by cases e), fun e => by rw [show ({ lon p D c with ex := Cnt.more (lon p D c).ex } : Ru).dn = (lon p D c).dn from rfl, n1] at e; cases e⟩
  · obtain ⟨_, h1, h2, h3⟩ := h.1 hd
    rw [h2, h3] at hf
    have hi : Ped.idl D.fs = true := by rw [h2]; rfl
    by_cases hw : (c.pu && !c.ps) = true ∧ 0 < p.walk
    · have hf2 : fooA p D c = ⟨1, 1⟩ := by rw [hf]; unfold Ped.ft; rw [if_neg (by decide), if_neg (by decide), if_pos hw]
      have hb : beg p D c = true := by unfold beg; rw [hf2, hi]; rfl
      have hs := hw.1
      simp only [Bool.and_eq_true, Bool.not_eq_true'] at hs
      have hu : duB p c (lon p D c) = false := by unfold duB; rw [hs.2]; rfl
      have n1 : (lon p D c).dn = false := by unfold lon; simp [hb]
      have n2 : (lon p D c).mx = false := by unfold lon; simp [hb]
      have hk1 : wks c (lon p D c) = true := by
        unfold wks
        rw [hs.1, hs.2, show (lon p D c).fs = (fooA p D c).st from rfl, show (lon p D c).ft = (fooA p D c).tm from rfl, hf2]
        rfl
      unfold sty
      rw [hu, if_neg (by simp)]
      exact ⟨no_dn n1 n2, fun _ _ => by rw [n1, hk1]; rfl, fun e => by rw [n1] at e; cases e⟩
    · have hf2 : fooA p D c = ⟨0, 0⟩ := by rw [hf]; unfold Ped.ft; rw [if_neg (by decide), if_neg (by decide), if_neg hw]
      have hb : beg p D c = false := by unfold beg; rw [hf2, hi]; rfl
      have n1 : (lon p D c).dn = true := by unfold lon; simp [hb, hd]
      have hu : duB p c (lon p D c) = false := by unfold duB; rw [n1]; simp
      have hk1 : wks c (lon p D c) = false := by
        unfold wks
        rw [show (lon p D c).fs = (fooA p D c).st from rfl, show (lon p D c).ft = (fooA p D c).tm from rfl, hf2]
        simp
      unfold sty
      rw [hu, if_neg (by simp)]
      have hmin := hp.min
      exact ⟨⟨fun _ => ⟨hco, more_ge h1 (by omega), by show (fooA p D c).st = 0; rw [hf2], by show (fooA p D c).tm = 0; rw [hf2]⟩, fun _ => n1⟩, fun _ _ => by rw [n1, hk1]; rfl, fun _ e => by cases e⟩
theorem built11 : Try.prog.built 25 [(0, I 1), (1, I 1)] = some #[I 1, I 1] := by kernel_rfl
/-! ### the walk -/
theorem walk (a0 : Option Addr) (len0 cap0 : Nat) (z0 : List Int) (a1 : Int) (s2 : Tab.Sl) (l2 : List Int) (w : World) (w0 : IsRow .i64 w a0 len0 cap0 z0) (w1 : (Lit.int .i64 a1).wf = true) (w2 : Tab.RowOf 1 (fun n : Int => [Tab.I n]) w s2 l2) :
    Calls Try.prog 6 #[.slice a0 len0 cap0, .int .i64 a1, .slice s2.a l2.length s2.cap] w fun e w' => e = .returned (.bool true) ∧ Below w.heap.size w w' := by
  obtain ⟨x, z, hA, hl1, hc1⟩ := Arg.ints_at w2
  obtain ⟨sa, cap⟩ := s2
  dsimp only at hA hl1 hc1 ⊢
  generalize l2.length = len at hA hl1 ⊢
  have HA := Lib.hid hA
  unfold maxLen at hc1
  clear hA w2
  obtain ⟨hlen, hrow⟩ := isRow_int w0
  obtain ⟨L, hL⟩ : ∃ L, L = z0.take len0 := ⟨_, rfl⟩
  rw [← hL] at hlen hrow
  clear hL w0
  subst hlen
  have hz := (zero_of_info GenT.infoTz).1
  have hZs : (Clone.zTab.cells Clone.zHd).length = 131 := rfl
  generalize hZ : GenT.zTab.cells GenT.zHd = Z at *
  have ZS : Z.toArray.size = 131 := by rw [← hZ]; rfl
  clear hZ hZs
  have GF : Hid (∀ k : Nat, k < 8 → (Clear.phAt (genTab L) k).on = true → GenQ.Rng (Clear.phAt (genTab L) k)) := Lib.hid (GenQ.gen_rng L)
  go_enter Try.func6, Try.ntmps6
  go_wp2_with fail
  refine (GenT.table_any a0 cap0 L w hrow).mono ?_
  rintro e u0 ⟨hd, rfl, ht, hb⟩
  have CS := GenT.cells_cut hd ht.ph ht.cf ht.fl
  have ONE := (cells_ok ht).one
  have T8 := Lib.hid ht.ph
  have HT : Hid (∀ W, Below u0.heap.size u0 W → IsTab W hd (genTab L)) := Lib.hid (fun W hb => ht.below hb)
  have B0 := Lib.hid hb
  have IA : Hid ((Try.prog.info? 45).map (·.size) = some ((genTab L).cells hd).length) := Lib.hid (by rw [CS]; exact May.infoT)
  clear hb ht
  generalize hc : (genTab L).cells hd = c at *
  have HC := Lib.hid hc
  clear hc
  go_upto_region 2 with (refine Row.wpList_store_new rfl 45 _ _ rfl u0 Z.toArray c.toArray rfl rfl rfl (by rw [List.size_toArray]; exact IA.out) (by rw [ZS, List.size_toArray, CS]) ONE ?_)
  have hb2 : Below u0.heap.size u0 (u0.alloc (.cells c.toArray 45)) := (Below.refl _ _).alloc (Nat.le_refl _) _
  have hl : Lies (u0.alloc (.cells c.toArray 45)) ⟨u0.heap.size, 0, none⟩ c := Row.lies_new _ _ _
  have TB0 : Hid (∀ W, Below (u0.alloc (.cells c.toArray 45)).heap.size (u0.alloc (.cells c.toArray 45)) W → IsTab W hd (genTab L)) := Lib.hid (fun W hb => HT.out W (hb2.trans (hb.mono hb2.size)))
  generalize u0.alloc (.cells c.toArray 45) = u at hb2 hl TB0 ⊢
  have TB : Hid (∀ W, Below u.heap.size u W → IsTab W hd (genTab L)) := TB0
  have A0 : Hid (Below w.heap.size w u) := Lib.hid (B0.out.trans (hb2.mono B0.out.size))
  have A1 : Hid (∀ W, Below u.heap.size u W → Lies W ⟨u0.heap.size, 0, none⟩ c) := Lib.hid (fun W hb => Lies.below hl hb)
  clear hb2 hl TB0 HT B0 hrow hz ZS ONE CS
  generalize u0.heap.size = tb at *
  generalize genTab L = T at *
  obtain ⟨k, hk⟩ : ∃ k : Nat, a1 % 8 = (k : Int) := ⟨(a1 % 8).toNat, by have := Int.emod_nonneg a1 (show (8 : Int) ≠ 0 by decide); omega⟩
  have hk8 : k < 8 := by have := Int.emod_lt_of_pos a1 (show (0 : Int) < 8 by decide); omega
  have PL : Hid (∀ W, Calls Try.prog 18 #[.int .i64 a1, .int .i64 8] W fun e w' => e = .returned (.int .i64 k) ∧ W = w') := Lib.hid (fun W => by have := RefS.place_any a1 8 W (by decide) (by decide); rwa [hk] at this)
  have KK := Lib.hid hk8
  clear hk
  have LP : Lies u ⟨tb, k * 13, none⟩ (Clear.phAt T k).cells := by
    have h := A1.out u (Below.refl _ _)
    rw [← HC.out] at h
    intro j v hj
    have := h (k * 13 + j) v (GenQ.cells_at (TB.out u (Below.refl _ _)) KK.out hj)
    rw [Addr.add_mid, Nat.zero_add] at this
    rwa [Addr.add_mid]
  have PG := Lib.hid (GF.out k hk8)
  generalize hph : Clear.phAt T k = p at LP PG
  clear hph GF
  have LP0 := Lib.hid LP
  clear LP
  have IP : (Try.prog.info? 23).map (·.size) = some p.cells.length := infoP
  go_upto_region 3 with (first | (go_at_call 18; refine (PL.out _).mono ?_; rintro e w' ⟨rfl, rfl⟩) | (refine Row.wpList_load_lies rfl 23 _ rfl ⟨tb, k * 13, none⟩ rfl p.cells _ LP0.out Try.underlying23 rfl IP ?_) | (refine Row.wpList_store_new rfl 23 _ _ rfl _ _ p.cells.toArray rfl rfl rfl May.infoP rfl (Ph.one _) ?_))
  dsimp only [Act.put]
  (try simp only [List.setIfInBounds_toArray, List.set_cons_zero, List.set_cons_succ])
  have h1 := (Blk.Bks.nil u).alloc p.cells.toArray 23
  generalize World.alloc u _ = v1 at h1 ⊢
  generalize u.heap.size = gx at h1 ⊢
  have H1 := Lib.hid h1
  clear h1 LP0 PL KK HC TB T8 IA A1 hk8 IP
  obtain ⟨B, hB⟩ : ∃ D, bgn p = D := ⟨_, rfl⟩
  have F5 : Hid (∀ W, Calls Try.prog 15 #[.agg p.cells.toArray] W fun e w' => e = .returned (.agg B.cells.toArray) ∧ Below W.heap.size W w') := Lib.hid (fun W => by rw [← hB]; exact begin_any p W)
  have HBG := Lib.hid hB
  clear hB
  have k0 : v1.cell? ⟨gx, 0, none⟩ = some (.bool p.on) := H1.out.cell 0 0 rfl rfl
  generalize hon : p.on = on at k0
  by_cases hl : 400 < len
  · have hl2 : decide ((len : Int) > 400) = true := decide_eq_true (by omega)
    cases on
    · go_wp2_with fail
      refine (awake_any _).mono ?_
      rintro e u9 ⟨rfl, b9⟩
      go_wp2
      go_ret
      exact ⟨rfl, A0.out.trans ((H1.out.step b9).bel.mono A0.out.size)⟩
    · go_wp2_with fail
      refine (awake_any _).mono ?_
      rintro e u9 ⟨rfl, b9⟩
      go_wp2
      go_ret
      exact ⟨rfl, A0.out.trans ((H1.out.step b9).bel.mono A0.out.size)⟩
  have hl2 : decide ((len : Int) > 400) = false := decide_eq_false (by omega)
  cases on
  · go_wp2_with fail
    refine (awake_any _).mono ?_
    rintro e u9 ⟨rfl, b9⟩
    go_wp2
    go_ret
    exact ⟨rfl, A0.out.trans ((H1.out.step b9).bel.mono A0.out.size)⟩
  have PG2 := Lib.hid (PG.out hon)
  clear hon PG
  go_upto_region 5 with fail
  clear k0
  go_wp2_with (refine Row.wpList_load_g 23 _ rfl (by first | rfl | (go_simp; done) | fail) ⟨gx, 0, none⟩ rfl p.cells _ (seg H1.out 0 0 rfl _ rfl) Try.underlying23 rfl infoP ?_)
  refine (F5.out _).mono ?_
  rintro e vn ⟨rfl, bc⟩
  have HN := Lib.hid (H1.out.step bc)
  clear bc
  go_upto_region 6 with (refine Row.wpList_store_new rfl 29 _ _ rfl _ _ B.cells.toArray rfl rfl rfl infoRu rfl (one_ru _) ?_)
  have hn := HN.out.alloc B.cells.toArray 29
  generalize World.alloc vn _ = v2 at hn ⊢
  generalize vn.heap.size = ga at hn ⊢
  have H2 := Lib.hid hn
  clear hn
  clear H1 HN
  clear F5
  go_wp2_with fail
  go_loopw [10] (fun i wr => ∃ (q : Nat) (D : Ru), q ≤ len ∧ i = .int .i64 q ∧ Hid (Jv p D) ∧ Blk.Bks u [(ga, (Ru.cells D).toArray, 29), (gx, p.cells.toArray, 23)] wr) (fun i _ => len - (intOf i).toNat)
  case atStart => exact ⟨0, B, by omega, rfl, Lib.hid (by rw [← HBG.out]; exact no_dn rfl rfl), H2.out⟩
  case round =>
    obtain ⟨q, D, hq, rfl, HI, hB⟩ := hrel
    have HB := Lib.hid hB
    clear hB H2
    by_cases hlt : q < len
    · obtain ⟨hx, hzl⟩ := HA.out q hlt
      subst hx
      generalize z q = n at hzl
      obtain ⟨c, hc⟩ : ∃ c, cueV (n % 1099511627776) = c := ⟨_, rfl⟩
      obtain ⟨C, hC⟩ : ∃ C : Cu, (⟨c.st, c.en, c.he, c.pu, c.ps, c.ho, c.ea, false⟩ : Cu) = C := ⟨_, rfl⟩
      have HT := tickD PG2.out HI.out C (by rw [← hC])
      obtain ⟨D', hD'⟩ : ∃ D', stp p D C = D' := ⟨_, rfl⟩
      rw [hD'] at HT
      have HT2 := Lib.hid HT
      clear HT HI
      have CQ : Hid (∀ W, Calls Try.prog 19 #[.int .i64 n] W fun e w' => e = .returned (.agg c.cells.toArray) ∧ Below W.heap.size W w') := Lib.hid (fun W => by rw [← hc]; exact cue_any n W)
      have F1 : Hid (∀ W, Calls Try.prog 11 #[.agg p.cells.toArray, .agg D.cells.toArray, .agg C.cells.toArray] W fun e w' => e = .returned (.agg D'.cells.toArray) ∧ Below W.heap.size W w') := Lib.hid (fun W => by rw [← hD']; exact step_any p D C W)
      clear hc hD'
      have HC' := Lib.hid hC
      clear hC
      go_upto_region 10 with (first | (refine Row.wpList_load_g 29 _ rfl (by first | rfl | (go_simp; done) | fail) ⟨ga, 0, none⟩ rfl D.cells _ (seg HB.out 0 0 rfl _ rfl) Try.underlying29 rfl infoRu ?_) | (refine Row.wpList_store_new rfl 29 _ _ rfl _ _ D.cells.toArray rfl rfl rfl infoRu rfl (one_ru _) ?_))
      have hn := HB.out.alloc D.cells.toArray 29
      generalize World.alloc wr _ = v3 at hn ⊢
      generalize wr.heap.size = gw at hn ⊢
      have H3 := Lib.hid hn
      clear hn
      clear HB
      have kz : v3.cell? (x.add q) = some (I n) := Arg.one_below hzl (A0.out.trans (H3.out.bel.mono A0.out.size))
      clear hzl
      go_wp2_with fail
      refine (CQ.out _).mono ?_
      rintro e vn ⟨rfl, bc⟩
      have HN := Lib.hid (H3.out.step bc)
      clear bc
      go_upto_region 11 with (refine Row.wpList_store_new rfl 31 _ _ rfl _ _ c.cells.toArray rfl rfl rfl infoCu rfl (one_cu _) ?_)
      have hn := HN.out.alloc c.cells.toArray 31
      generalize World.alloc vn _ = v4 at hn ⊢
      generalize vn.heap.size = gc at hn ⊢
      have H4 := Lib.hid hn
      clear hn
      clear HN H3 kz CQ
      have kk : v4.cell? ⟨gc, 7, none⟩ = some (.bool c.kt) := H4.out.cell 0 7 rfl rfl
      have fk : v4.frozen? ⟨gc, 7, none⟩ = false := H4.out.frozen 0 7 rfl
      go_upto_region 12 with fail
      have hput := H4.out.set 0 7 rfl (.bool false)
      rw [show Array.setIfInBounds _ 7 (.bool false) = C.cells.toArray by rw [← HC'.out]; rfl] at hput
      simp only [List.set_cons_zero] at hput
      generalize World.setCell v4 _ _ = v5 at hput ⊢
      have H5 := Lib.hid hput
      clear hput kk fk H4 HC'
      go_wp2_with (first | (refine Row.wpList_load_g 23 _ rfl (by first | rfl | (go_simp; done) | fail) ⟨gx, 0, none⟩ rfl p.cells _ (seg H5.out 3 0 rfl _ rfl) Try.underlying23 rfl infoP ?_) | (refine Row.wpList_load_g 29 _ rfl (by first | rfl | (go_simp; done) | fail) ⟨ga, 0, none⟩ rfl D.cells _ (seg H5.out 2 0 rfl _ rfl) Try.underlying29 rfl infoRu ?_) | (refine Row.wpList_load_g 31 _ rfl (by first | rfl | (go_simp; done) | fail) ⟨gc, 0, none⟩ rfl C.cells _ (seg H5.out 0 0 rfl _ rfl) Try.underlying31 rfl infoCu ?_))
      refine (F1.out _).mono ?_
      rintro e v6 ⟨rfl, bc⟩
      have H6 := Lib.hid (H5.out.step bc)
      clear bc
      go_upto_region 13 with (refine wpList_store_row rfl 29 _ _ rfl ga D'.cells.toArray rfl rfl 29 _ (H6.out.at 2 rfl) infoRu rfl (one_ru _) ?_)
      have hput := H6.out.put 2 rfl D'.cells.toArray
      simp only [List.set_cons_succ, List.set_cons_zero] at hput
      generalize World.setRow v6 ga _ = v7 at hput ⊢
      have H7 := Lib.hid hput
      clear hput
      clear H5 H6 F1
      (try dsimp only [Act.put]); (try simp only [List.setIfInBounds_toArray, List.set_cons_zero, List.set_cons_succ])
      go_cut [77] from 32 to 121 (fun t77 wx => t77 = .bool false ∧ Blk.Bks u [(gc, C.cells.toArray, 31), (gw, D.cells.toArray, 29), (ga, D'.cells.toArray, 29), (gx, p.cells.toArray, 23)] wx)
      case first =>
        have kd : v7.cell? ⟨ga, 7, none⟩ = some (.bool D'.dn) := H7.out.cell 2 7 rfl rfl
        have km : v7.cell? ⟨ga, 8, none⟩ = some (.bool D'.mx) := H7.out.cell 2 8 rfl rfl
        have hJ := HT2.out.1
        cases hd : D'.dn
        · have hm : D'.mx = false := by cases hx : D'.mx; rfl; rw [hJ.2 hx] at hd; cases hd
          rw [hd] at kd
          rw [hm] at km
          go_wp2_with fail
          go_meet
          case rel => exact ⟨rfl, H7.out⟩
        obtain ⟨j1, j2, j3, j4⟩ := hJ.1 hd
        rw [hd] at kd
        have kc : v7.cell? ⟨ga, 0, none⟩ = some (I D'.co) := H7.out.cell 2 0 rfl rfl
        have kt : v7.cell? ⟨ga, 1, none⟩ = some (I D'.tm) := H7.out.cell 2 1 rfl rfl
        have ki : v7.cell? ⟨gx, 1, none⟩ = some (I p.min) := H7.out.cell 3 1 rfl rfl
        rw [j1] at kc
        obtain ⟨tm, htm⟩ : ∃ x, D'.tm = x := ⟨_, rfl⟩
        obtain ⟨mi, hmi⟩ : ∃ x, p.min = x := ⟨_, rfl⟩
        rw [htm, hmi] at j2
        rw [htm] at kt
        rw [hmi] at ki
        clear htm hmi
        have SF : Lies v7 ⟨ga, 2, none⟩ [I 0, I 0] := by have := seg H7.out 2 2 rfl [I D'.fs, I D'.ft] rfl; rwa [j3, j4] at this
        have SF2 := Lib.hid SF
        clear SF
        have hng : ¬ tm < mi := by omega
        clear hJ j1 j3 j4
        obtain ⟨mx, hmx⟩ : ∃ x, D'.mx = x := ⟨_, rfl⟩
        rw [hmx] at km
        clear hmx
        cases mx
        · go_wp2_with (first | (refine Row.wpList_load_g 25 _ rfl (by first | rfl | (go_simp; done) | fail) ⟨ga, 2, none⟩ rfl [I 0, I 0] _ SF2.out Try.underlying25 rfl infoFt ?_) | (refine wpList_buildG (by first | rfl | (go_simp; done) | fail) 25 [] rfl #[I 0, I 0] [] rfl built0 ?_) | (refine Row.wpList_neq 25 _ _ _ rfl (by first | rfl | (go_simp; done) | fail) #[I 0, I 0] #[I 0, I 0] rfl rfl Ped.guardFt true (by simpa using Ped.ft_eqs 0 0 0 0) ?_))
          go_meet
          case rel => exact ⟨rfl, H7.out⟩
        · go_wp2_with (first | (refine Row.wpList_load_g 25 _ rfl (by first | rfl | (go_simp; done) | fail) ⟨ga, 2, none⟩ rfl [I 0, I 0] _ SF2.out Try.underlying25 rfl infoFt ?_) | (refine wpList_buildG (by first | rfl | (go_simp; done) | fail) 25 [] rfl #[I 0, I 0] [] rfl built0 ?_) | (refine Row.wpList_neq 25 _ _ _ rfl (by first | rfl | (go_simp; done) | fail) #[I 0, I 0] #[I 0, I 0] rfl rfl Ped.guardFt true (by simpa using Ped.ft_eqs 0 0 0 0) ?_))
          go_meet
          case rel => exact ⟨rfl, H7.out⟩
      case rest =>
      obtain ⟨rfl, hcut⟩ := hcut
      have H8 := Lib.hid hcut
      clear hcut H7
      rename World => v8
      go_upto_region 15 with fail
      obtain ⟨wk, hwk⟩ : ∃ x, wks C D' = x := ⟨_, rfl⟩
      rw [hwk] at HT2
      have HW := Lib.hid hwk
      clear hwk
      go_cut [13] from 32 to 121 (fun t13 wx => t13 = .bool wk ∧ Blk.Bks u [(gc, C.cells.toArray, 31), (gw, D.cells.toArray, 29), (ga, D'.cells.toArray, 29), (gx, p.cells.toArray, 23)] wx)
      case first =>
        have kp : v8.cell? ⟨gc, 3, none⟩ = some (.bool C.pu) := H8.out.cell 0 3 rfl rfl
        have ks : v8.cell? ⟨gc, 4, none⟩ = some (.bool C.ps) := H8.out.cell 0 4 rfl rfl
        have hw := HW.out
        unfold wks at hw
        obtain ⟨pu, hpu⟩ : ∃ x, C.pu = x := ⟨_, rfl⟩
        obtain ⟨ps, hps⟩ : ∃ x, C.ps = x := ⟨_, rfl⟩
        rw [hpu, hps] at hw
        rw [hpu] at kp
        rw [hps] at ks
        clear hpu hps
        cases pu
        · have e1 : wk = false := by rw [← hw]; simp
          clear hw
          go_wp2_with fail
          go_meet
          case rel => exact ⟨by rw [e1], H8.out⟩
        cases ps
        rotate_left
        · have e1 : wk = false := by rw [← hw]; simp
          clear hw
          go_wp2_with fail
          go_meet
          case rel => exact ⟨by rw [e1], H8.out⟩
        have e1 : wk = decide (D'.fs = 1 ∧ D'.ft = 1) := by rw [← hw]; simp
        clear hw
        go_wp2_with (first | (refine Row.wpList_load_g 25 _ rfl (by first | rfl | (go_simp; done) | fail) ⟨ga, 2, none⟩ rfl [I D'.fs, I D'.ft] _ (seg H8.out 2 2 rfl _ rfl) Try.underlying25 rfl infoFt ?_) | (refine wpList_buildG (by first | rfl | (go_simp; done) | fail) 25 [(0, .const (I 1)), (1, .const (I 1))] rfl #[I 1, I 1] _ (by rfl) built11 ?_) | (refine Row.wpList_eql 25 _ _ _ rfl (by first | rfl | (go_simp; done) | fail) #[I D'.fs, I D'.ft] #[I 1, I 1] rfl rfl Ped.guardFt (decide (D'.fs = 1 ∧ D'.ft = 1)) (Ped.ft_eqs _ _ _ _) ?_))
        go_meet
        case rel => exact ⟨by first | (rw [e1]; done) | (rw [e1]; simp), H8.out⟩
      case rest =>
      obtain ⟨rfl, hcut⟩ := hcut
      have H9 := Lib.hid hcut
      clear hcut H8 HW
      rename World => v9
      have kd : v9.cell? ⟨gw, 7, none⟩ = some (.bool D.dn) := H9.out.cell 1 7 rfl rfl
      have ke : v9.cell? ⟨gc, 1, none⟩ = some (.bool C.en) := H9.out.cell 0 1 rfl rfl
      have kd2 : v9.cell? ⟨ga, 7, none⟩ = some (.bool D'.dn) := H9.out.cell 2 7 rfl rfl
      have ks : v9.cell? ⟨gc, 4, none⟩ = some (.bool C.ps) := H9.out.cell 0 4 rfl rfl
      have kh : v9.cell? ⟨gc, 5, none⟩ = some (.bool C.ho) := H9.out.cell 0 5 rfl rfl
      obtain ⟨hJ, h1, h2⟩ := HT2.out
      have HJ := Lib.hid hJ
      clear hJ HT2
      obtain ⟨dn, hdn⟩ : ∃ x, D.dn = x := ⟨_, rfl⟩
      obtain ⟨d2, hd2⟩ : ∃ x, D'.dn = x := ⟨_, rfl⟩
      obtain ⟨en, hen⟩ : ∃ x, C.en = x := ⟨_, rfl⟩
      obtain ⟨ps, hps⟩ : ∃ x, C.ps = x := ⟨_, rfl⟩
      obtain ⟨ho, hho⟩ : ∃ x, C.ho = x := ⟨_, rfl⟩
      rw [hdn, hd2, hen] at h1
      rw [hdn, hd2, hps, hho] at h2
      rw [hdn] at kd
      rw [hd2] at kd2
      rw [hen] at ke
      rw [hps] at ks
      rw [hho] at kh
      clear hdn hd2 hen hps hho
      cases dn
      · cases d2
        · clear h1 h2
          go_wp2_with fail
          go_roundw
          case rel => exact ⟨q + 1, D', by omega, by go_num, HJ, H9.out.drop.drop⟩
          case measure => simp [intOf]; omega
        · obtain ⟨rfl, rfl⟩ := h2 rfl rfl
          clear h1 h2
          go_wp2_with fail
          go_roundw
          case rel => exact ⟨q + 1, D', by omega, by go_num, HJ, H9.out.drop.drop⟩
          case measure => simp [intOf]; omega
      · cases en
        · have h3 := h1 rfl rfl
          clear h1 h2
          cases wk
          · obtain rfl : d2 = true := h3
            go_wp2_with fail
            go_roundw
            case rel => exact ⟨q + 1, D', by omega, by go_num, HJ, H9.out.drop.drop⟩
            case measure => simp [intOf]; omega
          · obtain rfl : d2 = false := h3
            go_wp2_with fail
            go_roundw
            case rel => exact ⟨q + 1, D', by omega, by go_num, HJ, H9.out.drop.drop⟩
            case measure => simp [intOf]; omega
        · clear h1 h2
          cases d2
          · go_wp2_with fail
            go_roundw
            case rel => exact ⟨q + 1, D', by omega, by go_num, HJ, H9.out.drop.drop⟩
            case measure => simp [intOf]; omega
          · go_wp2_with fail
            go_roundw
            case rel => exact ⟨q + 1, D', by omega, by go_num, HJ, H9.out.drop.drop⟩
            case measure => simp [intOf]; omega
    · obtain rfl : q = len := by omega
      go_wp2_with fail
      refine (awake_any _).mono ?_
      rintro e u9 ⟨rfl, b9⟩
      go_wp2
      go_ret
      exact ⟨rfl, A0.out.trans ((HB.out.step b9).bel.mono A0.out.size)⟩
/-! ### the row's step -/
theorem lifted (os : Os) (started : os.Started) (H : Type) (enc : TypeId × Value → H) :
    ReturnsInHanded {} Try.checked os 6 .any (Rows.phaseDoneSpec.pre6 enc Try.prog Try.f6 Rows.phaseDoneRow.domain false) (Rows.phaseDoneSpec.post enc Try.prog Try.f6 false true false false) := by
  refine returnsInHanded_of_change (C := Try.checked) own started (by kernel_rfl) Try.func6
    (ChangeSpec.witness6 (enc := enc) (C := Try.checked) false ⟨#[], #[.slice none 0 0, .int .i64 0, .slice none 0 0], []⟩ 8 (by kernel_rfl) (by kernel_rfl) (by kernel_rfl) (by kernel_rfl)) ?_
  intro W base args ds gs before hval0 hW hcnd _
  have hval : ∀ (j : Nat) t v, Try.f6.params[j]? = some t → args[j]? = some v → Value.okWide Try.prog W .any base t v := hval0
  have hW' := hW
  obtain ⟨p, q, hA0, hV, rfl, hfz, hnd⟩ := hW
  have hA : DataW.TrodAll enc Try.prog W 0 (fun _ => true) true Try.f6.params.toList args.toList ds p := hA0
  rw [Try.params6] at hA hval
  obtain ⟨v0, vs0, d0, ds0, p0, q0, hargs, rfl, rfl, h0, r0⟩ := trodAll_cons hA
  obtain ⟨v1, vs1, d1, ds1, p1, q1, rfl, rfl, rfl, h1, r1⟩ := trodAll_cons r0
  obtain ⟨v2, vs2, d2, ds2, p2, q2, rfl, rfl, rfl, h2, r2⟩ := trodAll_cons r1
  obtain ⟨rfl, rfl, rfl⟩ := trodAll_nil r2
  obtain rfl : args = #[v0, v1, v2] := by cases args; simp_all
  obtain ⟨rfl, rfl⟩ := trodVars_none hV
  obtain ⟨a0, len0, cap0, rfl⟩ := okWide_slice Try.underlying37 (hval 0 37 v0 rfl rfl)
  have k0 := h0
  have lt0 : ∀ x ∈ p0, x.block < W.heap.size := by obtain ⟨m, hm⟩ := k0; exact DataW.trod_lt m _ _ _ hm
  obtain ⟨z0, w0⟩ : ∃ zs, IsRow .i64 W a0 len0 cap0 zs := by
    obtain ⟨fuel, hf⟩ := h0
    rcases open_ints Try.underlying37 Try.underlying3 (by kernel_rfl) hf with ⟨hcs, _⟩ | ⟨x, l, c, zs, hcs, _, hl, hm, hz, _, hcell, hwz⟩
    · simp [Value.cells] at hcs
      obtain ⟨rfl, rfl, rfl⟩ := hcs
      exact ⟨[], .inl ⟨rfl, rfl, rfl, rfl⟩⟩
    · simp [Value.cells] at hcs
      obtain ⟨rfl, rfl, rfl⟩ := hcs
      exact ⟨zs, .inr ⟨_, rfl, hl, hm, by simpa using hz, hcell, hwz⟩⟩
  obtain ⟨a1, rfl, rfl, rfl, w1⟩ := open_int Try.underlying3 (hval 1 3 v1 rfl rfl) h1
  obtain ⟨a2, len2, cap2, rfl⟩ := okWide_slice Try.underlying37 (hval 2 37 v2 rfl rfl)
  have k2 := h2
  have lt2 : ∀ x ∈ p2, x.block < W.heap.size := by obtain ⟨m, hm⟩ := k2; exact DataW.trod_lt m _ _ _ hm
  obtain ⟨s2, l2, e2, w2⟩ : ∃ (s : Tab.Sl) (l : List Int), Value.slice a2 len2 cap2 = s.val l.length ∧ Tab.RowOf 1 (fun n : Int => [Tab.I n]) W s l := by
    obtain ⟨fuel, hf⟩ := h2
    obtain ⟨s, l, e, r, _⟩ := TabArg.tr_row (k := 1) (f := (fun n : Int => [Tab.I n])) (p := fun _ => True) Try.underlying37 (by kernel_rfl) (fun n cs x hx => by obtain ⟨z, hz, _⟩ := DataW.trod_int Try.underlying3 hx; exact ⟨z, hz, trivial⟩) ⟨fuel, _, hf⟩
    exact ⟨s, l, e, r⟩
  simp only [Tab.Sl.val, Value.slice.injEq] at e2
  obtain ⟨rfl, rfl, rfl⟩ := e2
  clear hA0 hval0
  refine (walk a0 len0 cap0 z0 a1 s2 l2 W w0 w1 w2).mono fun e W' ⟨he, bel⟩ => ?_
  subst he
  exact ⟨_, rfl, _, _, _, [], _, [], hW', trodAll_mk1 (shut_bool Try.underlying4 _), (trodAll_cons_mk (Below.trod laidOut (by kernel_rfl) (of_decide_eq_true (by kernel_rfl)) k0 bel lt0) (trodAll_cons_mk (shut_int Try.underlying3 w1) (trodAll_cons_mk (Below.trod laidOut (by kernel_rfl) (of_decide_eq_true (by kernel_rfl)) k2 bel lt2) trodAll_mk0))), rfl, bel.frame _, fun h => by cases h⟩
theorem over : Rows.phaseDoneRow.holds Try.pinned (OpenSpec.ofChange Rows.phaseDoneSpec) :=
  OpenClaim.holds_of_wide 6 Try.f6 rfl rfl rfl rfl rfl rfl rfl ⟨rfl, rfl, rfl, rfl, rfl⟩ rfl rfl rfl rfl rfl (by kernel_rfl) Try.func6 (by kernel_rfl)
    (of_decide_eq_true (by kernel_rfl)) (by unfold Func.isWrapper; first | (rw [if_pos (by decide +kernel)]; kernel_rfl) | (rw [if_neg (by decide +kernel)]; exact ⟨rfl, rfl⟩))
    (fun os started H enc _ => lifted os started H enc)
/-- the statement -/
theorem proved : Rows.PhaseDoneSaid :=
  over
#print axioms proved
end phaseDone
end Go.Proofs.Ytbpfknkbiaplpaa
