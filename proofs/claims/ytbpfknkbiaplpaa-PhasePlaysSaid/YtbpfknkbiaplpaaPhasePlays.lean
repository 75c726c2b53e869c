/- PhasePlays returns true at any numbers of a table, any place and any row of cues: the runs and Held of package phase are the document's own, tick by tick. No condition. -/
import Derived.Test.YtbpfknkbiaplpaaRows
import Derived.Test.YtbpfknkbiaplpaaPart05
import Derived.Test.YtbpfknkbiaplpaaPart01
import Derived.Deep.Cut
import Derived.LoopTactic
import Derived.BigQuiet
import Derived.Test.YtbpfknkbiaplpaaPart09
import Derived.Test.YtbpfknkbiaplpaaPart10
import Derived.WalkKit
import Derived.WalkLawsBesides
import Derived.ProofKit
import Derived.OpenShut
import Derived.ShutString
import Derived.ChangeOld
import Derived.Below
set_option linter.unusedVariables false
set_option linter.unusedSimpArgs false
set_option linter.unusedSectionVars false
set_option maxHeartbeats 8000000
set_option maxRecDepth 100000
namespace Go.Proofs.Ytbpfknkbiaplpaa
namespace phasePlays
open Go.ChangeShapes Go.WideShapes Go.ChangeAt Go.RowKit
open Tab Ru QL
open May (infoP)
open Ped (infoFt)
open Gap (infoTn)
open GenT (genTab)
theorem own : ownKnob Try.prog.godebug = none := by kernel_rfl
theorem laidOut : laidOutB Try.prog = true := by kernel_rfl
/-- WHAT THE WALK IS TOLD OF A SLICE OF INTEGERS THAT CAME IN: it is nil; or it leads to a row of 'cap' cells, the numbers 'zs' (the first 'len' are its elements, the rest its spare room), each fitting its kind. -/
def IsRow (k : IntKind) (w : World) (a : Option Addr) (len cap : Nat) (zs : List Int) : Prop :=
  (a = none ∧ len = 0 ∧ cap = 0 ∧ zs = []) ∨
  ∃ x, a = some x ∧ len ≤ cap ∧ cap ≤ maxLen ∧ zs.length = cap ∧ (∀ i, i < zs.length → w.cell? (x.add i) = some (.int k (zs.getD i 0))) ∧ ∀ n ∈ zs, (Lit.int k n).wf = true
theorem isRow_int {w : World} {a : Option Addr} {len cap : Nat} {zs : List Int} (h : IsRow .i64 w a len cap zs) : (zs.take len).length = len ∧ Tab.IntRow w ⟨a, cap⟩ (zs.take len) := by
  rcases h with ⟨rfl, rfl, rfl, rfl⟩ | ⟨x, rfl, h1, h2, h3, h4, _⟩
  · exact ⟨rfl, .inl ⟨rfl, rfl, rfl⟩⟩
  · have hl : (zs.take len).length = len := by rw [List.length_take]; omega
    refine ⟨hl, .inr ⟨x, rfl, by rw [hl]; exact h1, h2, fun i v hv j u hu => ?_⟩⟩
    have hi : i < len := by have := (List.getElem?_eq_some_iff.1 hv).1; omega
    match j, hu with
    | 0, hu =>
      simp at hu
      subst hu
      rw [List.getElem?_take, if_pos hi] at hv
      have := h4 i (by omega)
      rw [List.getD_eq_getElem?_getD, hv] at this
      rw [Nat.mul_one, Tab.add_two, Nat.add_zero]
      exact this
    | j + 1, hu => simp at hu
/-! ### the walk -/
theorem walk (a0 : Option Addr) (len0 cap0 : Nat) (z0 : List Int) (a1 : Int) (s2 : Tab.Sl) (l2 : List Int) (w : World) (w0 : IsRow .i64 w a0 len0 cap0 z0) (w1 : (Lit.int .i64 a1).wf = true) (w2 : Tab.RowOf 1 (fun n : Int => [Tab.I n]) w s2 l2) :
    Calls Try.prog 4 #[.slice a0 len0 cap0, .int .i64 a1, .slice s2.a l2.length s2.cap] w fun e w' => e = .returned (.bool true) ∧ Below w.heap.size w w' := by
  obtain ⟨x, z, hA, hl1, hc1⟩ := Arg.ints_at w2
  obtain ⟨sa, cap⟩ := s2
  dsimp only at hA hl1 hc1 ⊢
  generalize l2.length = len at hA hl1 ⊢
  have HA := Lib.hid hA
  unfold maxLen at hc1
  clear hA w2
  obtain ⟨hlen, hrow⟩ := isRow_int w0
  obtain ⟨L, hL⟩ : ∃ L, L = z0.take len0 := ⟨_, rfl⟩
  rw [← hL] at hlen hrow
  clear hL w0
  subst hlen
  have hz := (zero_of_info GenT.infoTz).1
  have hZs : (Clone.zTab.cells Clone.zHd).length = 131 := rfl
  generalize hZ : GenT.zTab.cells GenT.zHd = Z at *
  have ZS : Z.toArray.size = 131 := by rw [← hZ]; rfl
  clear hZ hZs
  have GF : Hid (∀ k : Nat, k < 8 → (Clear.phAt (genTab L) k).on = true → GenQ.Rng (Clear.phAt (genTab L) k)) := Lib.hid (GenQ.gen_rng L)
  go_enter Try.func4, Try.ntmps4
  go_wp2_with fail
  refine (GenT.table_any a0 cap0 L w hrow).mono ?_
  rintro e u0 ⟨hd, rfl, ht, hb⟩
  have CS := GenT.cells_cut hd ht.ph ht.cf ht.fl
  have ONE := (cells_ok ht).one
  have T8 := Lib.hid ht.ph
  have HT : Hid (∀ W, Below u0.heap.size u0 W → IsTab W hd (genTab L)) := Lib.hid (fun W hb => ht.below hb)
  have B0 := Lib.hid hb
  have IA : Hid ((Try.prog.info? 45).map (·.size) = some ((genTab L).cells hd).length) := Lib.hid (by rw [CS]; exact May.infoT)
  clear hb ht
  generalize hc : (genTab L).cells hd = c at *
  have HC := Lib.hid hc
  clear hc
  go_upto_region 2 with (refine Row.wpList_store_new rfl 45 _ _ rfl u0 Z.toArray c.toArray rfl rfl rfl (by rw [List.size_toArray]; exact IA.out) (by rw [ZS, List.size_toArray, CS]) ONE ?_)
  have hb2 : Below u0.heap.size u0 (u0.alloc (.cells c.toArray 45)) := (Below.refl _ _).alloc (Nat.le_refl _) _
  have hl : Lies (u0.alloc (.cells c.toArray 45)) ⟨u0.heap.size, 0, none⟩ c := Row.lies_new _ _ _
  have TB0 : Hid (∀ W, Below (u0.alloc (.cells c.toArray 45)).heap.size (u0.alloc (.cells c.toArray 45)) W → IsTab W hd (genTab L)) := Lib.hid (fun W hb => HT.out W (hb2.trans (hb.mono hb2.size)))
  generalize u0.alloc (.cells c.toArray 45) = u at hb2 hl TB0 ⊢
  have TB : Hid (∀ W, Below u.heap.size u W → IsTab W hd (genTab L)) := TB0
  have A0 : Hid (Below w.heap.size w u) := Lib.hid (B0.out.trans (hb2.mono B0.out.size))
  have A1 : Hid (∀ W, Below u.heap.size u W → Lies W ⟨u0.heap.size, 0, none⟩ c) := Lib.hid (fun W hb => Lies.below hl hb)
  clear hb2 hl TB0 HT B0 hrow hz ZS ONE CS
  generalize u0.heap.size = tb at *
  generalize genTab L = T at *
  obtain ⟨k, hk⟩ : ∃ k : Nat, a1 % 8 = (k : Int) := ⟨(a1 % 8).toNat, by have := Int.emod_nonneg a1 (show (8 : Int) ≠ 0 by decide); omega⟩
  have hk8 : k < 8 := by have := Int.emod_lt_of_pos a1 (show (0 : Int) < 8 by decide); omega
  have PL : Hid (∀ W, Calls Try.prog 18 #[.int .i64 a1, .int .i64 8] W fun e w' => e = .returned (.int .i64 k) ∧ W = w') := Lib.hid (fun W => by have := RefS.place_any a1 8 W (by decide) (by decide); rwa [hk] at this)
  have KK := Lib.hid hk8
  clear hk
  have LP : Lies u ⟨tb, k * 13, none⟩ (Clear.phAt T k).cells := by
    have h := A1.out u (Below.refl _ _)
    rw [← HC.out] at h
    intro j v hj
    have := h (k * 13 + j) v (GenQ.cells_at (TB.out u (Below.refl _ _)) KK.out hj)
    rw [Addr.add_mid, Nat.zero_add] at this
    rwa [Addr.add_mid]
  have PG := Lib.hid (GF.out k hk8)
  generalize hph : Clear.phAt T k = p at LP PG
  clear hph GF
  have LP0 := Lib.hid LP
  clear LP
  have IP : (Try.prog.info? 23).map (·.size) = some p.cells.length := infoP
  go_upto_region 3 with (first | (go_at_call 18; refine (PL.out _).mono ?_; rintro e w' ⟨rfl, rfl⟩) | (refine Row.wpList_load_lies rfl 23 _ rfl ⟨tb, k * 13, none⟩ rfl p.cells _ LP0.out Try.underlying23 rfl IP ?_) | (refine Row.wpList_store_new rfl 23 _ _ rfl _ _ p.cells.toArray rfl rfl rfl May.infoP rfl (Ph.one _) ?_))
  dsimp only [Act.put]
  (try simp only [List.setIfInBounds_toArray, List.set_cons_zero, List.set_cons_succ])
  have h1 := (Blk.Bks.nil u).alloc p.cells.toArray 23
  generalize World.alloc u _ = v1 at h1 ⊢
  generalize u.heap.size = gx at h1 ⊢
  have H1 := Lib.hid h1
  clear h1 LP0 PL KK HC TB T8 IA A1 hk8 IP
  obtain ⟨B, hB⟩ : ∃ D, bgn p = D := ⟨_, rfl⟩
  have F5 : Hid (∀ W, Calls Try.prog 15 #[.agg p.cells.toArray] W fun e w' => e = .returned (.agg B.cells.toArray) ∧ Below W.heap.size W w') := Lib.hid (fun W => by rw [← hB]; exact begin_any p W)
  have F6 : Hid (∀ W, Calls Try.prog 16 #[.agg p.cells.toArray] W fun e w' => e = .returned (.agg B.cells.toArray) ∧ Below W.heap.size W w') := Lib.hid (fun W => by rw [← hB]; exact rbegin_any p W)
  clear hB PG
  by_cases hl : 400 < len
  · have hl2 : decide ((len : Int) > 400) = true := decide_eq_true (by omega)
    go_wp2_with fail
    refine (awake_any _).mono ?_
    rintro e u9 ⟨rfl, b9⟩
    go_wp2
    go_ret
    exact ⟨rfl, A0.out.trans ((H1.out.step b9).bel.mono A0.out.size)⟩
  have hl2 : decide ((len : Int) > 400) = false := decide_eq_false (by omega)
  go_upto_region 5 with fail
  go_wp2_with (refine Row.wpList_load_g 23 _ rfl (by first | rfl | (go_simp; done) | fail) ⟨gx, 0, none⟩ rfl p.cells _ (seg H1.out 0 0 rfl _ rfl) Try.underlying23 rfl infoP ?_)
  refine (F5.out _).mono ?_
  rintro e vn ⟨rfl, bc⟩
  have HN := Lib.hid (H1.out.step bc)
  clear bc
  go_upto_region 6 with (refine Row.wpList_store_new rfl 29 _ _ rfl _ _ B.cells.toArray rfl rfl rfl infoRu rfl (one_ru _) ?_)
  have hn := HN.out.alloc B.cells.toArray 29
  generalize World.alloc vn _ = v2 at hn ⊢
  generalize vn.heap.size = ga at hn ⊢
  have H2 := Lib.hid hn
  clear hn
  clear H1 HN
  go_wp2_with (refine Row.wpList_load_g 23 _ rfl (by first | rfl | (go_simp; done) | fail) ⟨gx, 0, none⟩ rfl p.cells _ (seg H2.out 1 0 rfl _ rfl) Try.underlying23 rfl infoP ?_)
  refine (F6.out _).mono ?_
  rintro e vn ⟨rfl, bc⟩
  have HN := Lib.hid (H2.out.step bc)
  clear bc
  go_upto_region 7 with (refine Row.wpList_store_new rfl 29 _ _ rfl _ _ B.cells.toArray rfl rfl rfl infoRu rfl (one_ru _) ?_)
  have hn := HN.out.alloc B.cells.toArray 29
  generalize World.alloc vn _ = v3 at hn ⊢
  generalize vn.heap.size = gb at hn ⊢
  have H3 := Lib.hid hn
  clear hn
  clear H2 HN
  clear F5 F6
  go_wp2_with fail
  go_loopw [11] (fun i wr => ∃ (q : Nat) (D : Ru), q ≤ len ∧ i = .int .i64 q ∧ Blk.Bks u [(gb, (Ru.cells D).toArray, 29), (ga, (Ru.cells D).toArray, 29), (gx, p.cells.toArray, 23)] wr) (fun i _ => len - (intOf i).toNat)
  case atStart => exact ⟨0, B, by omega, rfl, H3.out⟩
  case round =>
    obtain ⟨q, D, hq, rfl, hB⟩ := hrel
    have HB := Lib.hid hB
    clear hB H3
    by_cases hlt : q < len
    · obtain ⟨hx, hzl⟩ := HA.out q hlt
      subst hx
      generalize z q = n at hzl
      have kz : wr.cell? (x.add q) = some (I n) := Arg.one_below hzl (A0.out.trans (HB.out.bel.mono A0.out.size))
      obtain ⟨c, hc⟩ : ∃ c, cueV (n % 1099511627776) = c := ⟨_, rfl⟩
      obtain ⟨D', hD'⟩ : ∃ D', stp p D c = D' := ⟨_, rfl⟩
      obtain ⟨hh, hH⟩ : ∃ x, hld p D c = x := ⟨_, rfl⟩
      have CQ : Hid (∀ W, Calls Try.prog 19 #[.int .i64 n] W fun e w' => e = .returned (.agg c.cells.toArray) ∧ Below W.heap.size W w') := Lib.hid (fun W => by rw [← hc]; exact cue_any n W)
      have F1 : Hid (∀ W, Calls Try.prog 11 #[.agg p.cells.toArray, .agg D.cells.toArray, .agg c.cells.toArray] W fun e w' => e = .returned (.agg D'.cells.toArray) ∧ Below W.heap.size W w') := Lib.hid (fun W => by rw [← hD']; exact step_any p D c W)
      have F2 : Hid (∀ W, Calls Try.prog 12 #[.agg p.cells.toArray, .agg D.cells.toArray, .agg c.cells.toArray] W fun e w' => e = .returned (.agg D'.cells.toArray) ∧ Below W.heap.size W w') := Lib.hid (fun W => by rw [← hD']; exact rstep_any p D c W)
      have F3 : Hid (∀ W, Calls Try.prog 13 #[.agg p.cells.toArray, .agg D.cells.toArray, .agg c.cells.toArray] W fun e w' => e = .returned (.bool hh) ∧ Below W.heap.size W w') := Lib.hid (fun W => by rw [← hH]; exact held_any p D c W)
      have F4 : Hid (∀ W, Calls Try.prog 14 #[.agg p.cells.toArray, .agg D.cells.toArray, .agg c.cells.toArray] W fun e w' => e = .returned (.bool hh) ∧ Below W.heap.size W w') := Lib.hid (fun W => by rw [← hH]; exact kept_any p D c W)
      clear hc hD' hH hzl
      go_wp2_with fail
      refine (CQ.out _).mono ?_
      rintro e vn ⟨rfl, bc⟩
      have HN := Lib.hid (HB.out.step bc)
      clear bc
      go_upto_region 11 with (refine Row.wpList_store_new rfl 31 _ _ rfl _ _ c.cells.toArray rfl rfl rfl infoCu rfl (one_cu _) ?_)
      have hn := HN.out.alloc c.cells.toArray 31
      generalize World.alloc vn _ = v4 at hn ⊢
      generalize vn.heap.size = gc at hn ⊢
      have H4 := Lib.hid hn
      clear hn
      clear HN HB kz CQ
      (try dsimp only [Act.put])
      refine QB.region_below v4.heap.size (by kernel_rfl) (by kernel_rfl) ?_
      repeat first
        | (refine wpQuiet_load rfl 23 _ rfl ⟨gx, 0, none⟩ rfl p.cells _ (fun w' ⟨pw, e⟩ => by rw [e]; exact seg (H4.out.by pw) 3 0 rfl _ rfl) Try.underlying23 rfl infoP ?_
           dsimp only [Act.put]
           simp only [List.setIfInBounds_toArray, List.set_cons_zero, List.set_cons_succ])
        | (refine wpQuiet_load rfl 29 _ rfl ⟨ga, 0, none⟩ rfl D.cells _ (fun w' ⟨pw, e⟩ => by rw [e]; exact seg (H4.out.by pw) 2 0 rfl _ rfl) Try.underlying29 rfl infoRu ?_
           dsimp only [Act.put]
           simp only [List.setIfInBounds_toArray, List.set_cons_zero, List.set_cons_succ])
        | (refine wpQuiet_load rfl 29 _ rfl ⟨gb, 0, none⟩ rfl D.cells _ (fun w' ⟨pw, e⟩ => by rw [e]; exact seg (H4.out.by pw) 1 0 rfl _ rfl) Try.underlying29 rfl infoRu ?_
           dsimp only [Act.put]
           simp only [List.setIfInBounds_toArray, List.set_cons_zero, List.set_cons_succ])
        | (refine wpQuiet_load rfl 31 _ rfl ⟨gc, 0, none⟩ rfl c.cells _ (fun w' ⟨pw, e⟩ => by rw [e]; exact seg (H4.out.by pw) 0 0 rfl _ rfl) Try.underlying31 rfl infoCu ?_
           dsimp only [Act.put]
           simp only [List.setIfInBounds_toArray, List.set_cons_zero, List.set_cons_succ])
        | ((quiet_step (first | (go_at_call 13; with_reducible exact QB.call_of (Nat.le_refl _) (fun b => F3.out _)) | (go_at_call 14; with_reducible exact QB.call_of (Nat.le_refl _) (fun b => F4.out _))); try simp only [beq_self_eq_true, bne_self_eq_false]))
      refine wpQuiet_nil ?_
      intro _ hw'
      obtain ⟨pq, rfl⟩ := hw'
      have HP := Lib.hid (H4.out.by pq)
      generalize pq.world = v5 at HP ⊢
      have eh : (hh != hh) = false := bne_self_eq_false _
      go_wp2_with (first | (refine Row.wpList_load_g 23 _ rfl (by first | rfl | (go_simp; done) | fail) ⟨gx, 0, none⟩ rfl p.cells _ (seg HP.out 3 0 rfl _ rfl) Try.underlying23 rfl infoP ?_) | (refine Row.wpList_load_g 29 _ rfl (by first | rfl | (go_simp; done) | fail) ⟨ga, 0, none⟩ rfl D.cells _ (seg HP.out 2 0 rfl _ rfl) Try.underlying29 rfl infoRu ?_) | (refine Row.wpList_load_g 31 _ rfl (by first | rfl | (go_simp; done) | fail) ⟨gc, 0, none⟩ rfl c.cells _ (seg HP.out 0 0 rfl _ rfl) Try.underlying31 rfl infoCu ?_))
      refine (F1.out _).mono ?_
      rintro e v6 ⟨rfl, bc⟩
      have H6 := Lib.hid (HP.out.step bc)
      clear bc
      go_upto_region 14 with (refine wpList_store_row rfl 29 _ _ rfl ga D'.cells.toArray rfl rfl 29 _ (H6.out.at 2 rfl) infoRu rfl (one_ru _) ?_)
      have hput := H6.out.put 2 rfl D'.cells.toArray
      simp only [List.set_cons_succ, List.set_cons_zero] at hput
      generalize World.setRow v6 ga _ = v7 at hput ⊢
      have H7 := Lib.hid hput
      clear hput
      clear HP H6
      go_wp2_with (first | (refine Row.wpList_load_g 23 _ rfl (by first | rfl | (go_simp; done) | fail) ⟨gx, 0, none⟩ rfl p.cells _ (seg H7.out 3 0 rfl _ rfl) Try.underlying23 rfl infoP ?_) | (refine Row.wpList_load_g 29 _ rfl (by first | rfl | (go_simp; done) | fail) ⟨gb, 0, none⟩ rfl D.cells _ (seg H7.out 1 0 rfl _ rfl) Try.underlying29 rfl infoRu ?_) | (refine Row.wpList_load_g 31 _ rfl (by first | rfl | (go_simp; done) | fail) ⟨gc, 0, none⟩ rfl c.cells _ (seg H7.out 0 0 rfl _ rfl) Try.underlying31 rfl infoCu ?_))
      refine (F2.out _).mono ?_
      rintro e v8 ⟨rfl, bc⟩
      have H8 := Lib.hid (H7.out.step bc)
      clear bc
      go_upto_region 15 with (refine wpList_store_row rfl 29 _ _ rfl gb D'.cells.toArray rfl rfl 29 _ (H8.out.at 1 rfl) infoRu rfl (one_ru _) ?_)
      have hput := H8.out.put 1 rfl D'.cells.toArray
      simp only [List.set_cons_succ, List.set_cons_zero] at hput
      generalize World.setRow v8 gb _ = v9 at hput ⊢
      have H9 := Lib.hid hput
      clear hput
      clear H7 H8
      go_wp2_with (first | (refine Row.wpList_load_g 29 _ rfl (by first | rfl | (go_simp; done) | fail) ⟨ga, 0, none⟩ rfl D'.cells _ (seg H9.out 2 0 rfl _ rfl) Try.underlying29 rfl infoRu ?_) | (refine Row.wpList_load_g 29 _ rfl (by first | rfl | (go_simp; done) | fail) ⟨gb, 0, none⟩ rfl D'.cells _ (seg H9.out 1 0 rfl _ rfl) Try.underlying29 rfl infoRu ?_) | (refine Row.wpList_neq 29 _ _ _ rfl (by rfl) D'.cells.toArray D'.cells.toArray rfl rfl guardRu true (ru_same _) ?_))
      go_roundw
      case rel => exact ⟨q + 1, D', by omega, by go_num, H9.out.drop⟩
      case measure => simp [intOf]; omega
    · obtain rfl : q = len := by omega
      go_wp2_with fail
      refine (awake_any _).mono ?_
      rintro e u9 ⟨rfl, b9⟩
      go_wp2
      go_ret
      exact ⟨rfl, A0.out.trans ((HB.out.step b9).bel.mono A0.out.size)⟩
/-! ### the row's step -/
theorem lifted (os : Os) (started : os.Started) (H : Type) (enc : TypeId × Value → H) :
    ReturnsInHanded {} Try.checked os 4 .any (Rows.phasePlaysSpec.pre6 enc Try.prog Try.f4 Rows.phasePlaysRow.domain false) (Rows.phasePlaysSpec.post enc Try.prog Try.f4 false true false false) := by
  refine returnsInHanded_of_change (C := Try.checked) own started (by kernel_rfl) Try.func4
    (ChangeSpec.witness6 (enc := enc) (C := Try.checked) false ⟨#[], #[.slice none 0 0, .int .i64 0, .slice none 0 0], []⟩ 8 (by kernel_rfl) (by kernel_rfl) (by kernel_rfl) (by kernel_rfl)) ?_
  intro W base args ds gs before hval0 hW hcnd _
  have hval : ∀ (j : Nat) t v, Try.f4.params[j]? = some t → args[j]? = some v → Value.okWide Try.prog W .any base t v := hval0
  have hW' := hW
  obtain ⟨p, q, hA0, hV, rfl, hfz, hnd⟩ := hW
  have hA : DataW.TrodAll enc Try.prog W 0 (fun _ => true) true Try.f4.params.toList args.toList ds p := hA0
  rw [Try.params4] at hA hval
  obtain ⟨v0, vs0, d0, ds0, p0, q0, hargs, rfl, rfl, h0, r0⟩ := trodAll_cons hA
  obtain ⟨v1, vs1, d1, ds1, p1, q1, rfl, rfl, rfl, h1, r1⟩ := trodAll_cons r0
  obtain ⟨v2, vs2, d2, ds2, p2, q2, rfl, rfl, rfl, h2, r2⟩ := trodAll_cons r1
  obtain ⟨rfl, rfl, rfl⟩ := trodAll_nil r2
  obtain rfl : args = #[v0, v1, v2] := by cases args; simp_all
  obtain ⟨rfl, rfl⟩ := trodVars_none hV
  obtain ⟨a0, len0, cap0, rfl⟩ := okWide_slice Try.underlying37 (hval 0 37 v0 rfl rfl)
  have k0 := h0
  have lt0 : ∀ x ∈ p0, x.block < W.heap.size := by obtain ⟨m, hm⟩ := k0; exact DataW.trod_lt m _ _ _ hm
  obtain ⟨z0, w0⟩ : ∃ zs, IsRow .i64 W a0 len0 cap0 zs := by
    obtain ⟨fuel, hf⟩ := h0
    rcases open_ints Try.underlying37 Try.underlying3 (by kernel_rfl) hf with ⟨hcs, _⟩ | ⟨x, l, c, zs, hcs, _, hl, hm, hz, _, hcell, hwz⟩
    · simp [Value.cells] at hcs
      obtain ⟨rfl, rfl, rfl⟩ := hcs
      exact ⟨[], .inl ⟨rfl, rfl, rfl, rfl⟩⟩
    · simp [Value.cells] at hcs
      obtain ⟨rfl, rfl, rfl⟩ := hcs
      exact ⟨zs, .inr ⟨_, rfl, hl, hm, by simpa using hz, hcell, hwz⟩⟩
  obtain ⟨a1, rfl, rfl, rfl, w1⟩ := open_int Try.underlying3 (hval 1 3 v1 rfl rfl) h1
  obtain ⟨a2, len2, cap2, rfl⟩ := okWide_slice Try.underlying37 (hval 2 37 v2 rfl rfl)
  have k2 := h2
  have lt2 : ∀ x ∈ p2, x.block < W.heap.size := by obtain ⟨m, hm⟩ := k2; exact DataW.trod_lt m _ _ _ hm
  obtain ⟨s2, l2, e2, w2⟩ : ∃ (s : Tab.Sl) (l : List Int), Value.slice a2 len2 cap2 = s.val l.length ∧ Tab.RowOf 1 (fun n : Int => [Tab.I n]) W s l := by
    obtain ⟨fuel, hf⟩ := h2
    obtain ⟨s, l, e, r, _⟩ := TabArg.tr_row (k := 1) (f := (fun n : Int => [Tab.I n])) (p := fun _ => True) Try.underlying37 (by kernel_rfl) (fun n cs x hx => by obtain ⟨z, hz, _⟩ := DataW.trod_int Try.underlying3 hx; exact ⟨z, hz, trivial⟩) ⟨fuel, _, hf⟩
    exact ⟨s, l, e, r⟩
  simp only [Tab.Sl.val, Value.slice.injEq] at e2
  obtain ⟨rfl, rfl, rfl⟩ := e2
  clear hA0 hval0
  refine (walk a0 len0 cap0 z0 a1 s2 l2 W w0 w1 w2).mono fun e W' ⟨he, bel⟩ => ?_
  subst he
  exact ⟨_, rfl, _, _, _, [], _, [], hW', trodAll_mk1 (shut_bool Try.underlying4 _), (trodAll_cons_mk (Below.trod laidOut (by kernel_rfl) (of_decide_eq_true (by kernel_rfl)) k0 bel lt0) (trodAll_cons_mk (shut_int Try.underlying3 w1) (trodAll_cons_mk (Below.trod laidOut (by kernel_rfl) (of_decide_eq_true (by kernel_rfl)) k2 bel lt2) trodAll_mk0))), rfl, bel.frame _, fun h => by cases h⟩
theorem over : Rows.phasePlaysRow.holds Try.pinned (OpenSpec.ofChange Rows.phasePlaysSpec) :=
  OpenClaim.holds_of_wide 4 Try.f4 rfl rfl rfl rfl rfl rfl rfl ⟨rfl, rfl, rfl, rfl, rfl⟩ rfl rfl rfl rfl rfl (by kernel_rfl) Try.func4 (by kernel_rfl)
    (of_decide_eq_true (by kernel_rfl)) (by unfold Func.isWrapper; first | (rw [if_pos (by decide +kernel)]; kernel_rfl) | (rw [if_neg (by decide +kernel)]; exact ⟨rfl, rfl⟩))
    (fun os started H enc _ => lifted os started H enc)
/-- the statement -/
theorem proved : Rows.PhasePlaysSaid :=
  over
#print axioms proved
end phasePlays
end Go.Proofs.Ytbpfknkbiaplpaa
