/- 6 texts in one file, in build order. -/
import Derived.Test.YtbpfknkbiaplpaaPart02
import Derived.Test.YtbpfknkbiaplpaaPart03
import Derived.Test.YtbpfknkbiaplpaaPart04
import Derived.Test.YtbpfknkbiaplpaaPart01
import Derived.Below
set_option linter.unusedVariables false
set_option linter.unusedSimpArgs false
set_option linter.unusedSectionVars false
set_option maxHeartbeats 8000000
set_option maxRecDepth 100000
namespace Go.Proofs.Ytbpfknkbiaplpaa
namespace Ru
open Go Go.ChangeShapes Go.WideShapes Go.ChangeAt Go.RowKit
open Tab Flat TabArg QL
open May (infoP)
open Ped (ft cu idl Ft infoFt)
open Gap (lm lf gr Tn infoTn)
theorem green_any (p : Ph) (r : Ru) (c : Cu) (w : World) : Calls Try.prog 24 #[.agg p.cells.toArray, .agg r.cells.toArray, .agg c.cells.toArray] w fun e w' => e = .returned (.tuple #[.agg (Ru.cells (sty p c (lon p r c))).toArray, .bool (duB p c (lon p r c))]) ∧ Below w.heap.size w w' := by
  obtain ⟨n1, hn1⟩ : ∃ x, Cnt.more r.tm = x := ⟨_, rfl⟩
  obtain ⟨⟨a, b⟩, hf⟩ : ∃ x, fooA p r c = x := ⟨_, rfl⟩
  obtain ⟨l1, hl1⟩ : ∃ x, lf p.gap r.lf c.he = x := ⟨_, rfl⟩
  obtain ⟨n2, hn2⟩ : ∃ x, Cnt.more r.pr = x := ⟨_, rfl⟩
  obtain ⟨e1, he1⟩ : ∃ x, Cnt.more r.ex = x := ⟨_, rfl⟩
  obtain ⟨i1, hi1⟩ : ∃ x, idl r.fs = x := ⟨_, rfl⟩
  obtain ⟨i2, hi2⟩ : ∃ x, idl a = x := ⟨_, rfl⟩
  obtain ⟨lm1, hlm⟩ : ∃ x, lm p r.tl = x := ⟨_, rfl⟩
  obtain ⟨pr1, hpr⟩ : ∃ x, (if c.ps then n2 else r.pr) = x := ⟨_, rfl⟩
  obtain ⟨dn1, hdn⟩ : ∃ x, (r.dn && !(i1 && decide (a = 1))) = x := ⟨_, rfl⟩
  obtain ⟨mx1, hmx⟩ : ∃ x, (r.mx && !(i1 && decide (a = 1))) = x := ⟨_, rfl⟩
  obtain ⟨lng, hlng⟩ : ∃ x, decide (lm1 ≤ pr1) = x := ⟨_, rfl⟩
  obtain ⟨du, hdu⟩ : ∃ x, (c.ps && (!dn1 && (decide (p.min ≤ n1) && (i2 && (decide (l1 = 0) || (lng || c.ea)))))) = x := ⟨_, rfl⟩
  obtain ⟨ex1, hex⟩ : ∃ x, (if (du && c.ho) = true then e1 else r.ex) = x := ⟨_, rfl⟩
  obtain ⟨dn2, hdn2⟩ : ∃ x, (if (du && !c.ho) = true then true else dn1) = x := ⟨_, rfl⟩
  obtain ⟨mx2, hmx2⟩ : ∃ x, (if (du && !c.ho) = true then decide (0 < l1) && lng else mx1) = x := ⟨_, rfl⟩
  have EL : lon p r c = ⟨r.co, n1, a, b, l1, pr1, r.ex, dn1, mx1, r.tl, r.tu, r.td⟩ := by unfold lon beg; rw [hn1, hf, hl1, hn2, hi1, hdn, hmx, hpr]
  have EF : fuB p (lon p r c) = lng := by rw [EL]; unfold fuB; rw [hlm, hlng]
  have ED : duB p c (lon p r c) = du := by unfold duB; rw [EF, EL]; simp only []; rw [hi2, hdu]
  have ES : sty p c (lon p r c) = ⟨r.co, n1, a, b, l1, pr1, ex1, dn2, mx2, r.tl, r.tu, r.td⟩ := by
    unfold sty
    rw [ED, EF, EL, ← hex, ← hdn2, ← hmx2]
    generalize c.ho = ho
    cases du <;> cases ho <;> simp [he1]
  rw [ED, ES]
  clear ED ES EF EL
  have HN := Lib.hid hdn
  have HM := Lib.hid hmx
  have HP1 := Lib.hid hpr
  have HL := Lib.hid hlng
  have HDU := Lib.hid hdu
  have HEX := Lib.hid hex
  have HN2 := Lib.hid hdn2
  have HM2 := Lib.hid hmx2
  clear hdn hmx hpr hlng hdu hex hdn2 hmx2
  have O1 : Hid (∀ W, Calls Try.prog 25 #[.int .i64 r.tm] W fun e w' => e = .returned (.int .i64 n1) ∧ W = w') := Lib.hid (fun W => by rw [← hn1]; exact Cnt.rmore_any _ W)
  have O2 : Hid (∀ W, Calls Try.prog 25 #[.int .i64 r.pr] W fun e w' => e = .returned (.int .i64 n2) ∧ W = w') := Lib.hid (fun W => by rw [← hn2]; exact Cnt.rmore_any _ W)
  have O3 : Hid (∀ W, Calls Try.prog 25 #[.int .i64 r.ex] W fun e w' => e = .returned (.int .i64 e1) ∧ W = w') := Lib.hid (fun W => by rw [← he1]; exact Cnt.rmore_any _ W)
  have LE : Hid (∀ W, Calls Try.prog 51 #[.agg p.cells.toArray, .int .i64 r.lf, .bool c.he] W fun e w' => e = .returned (.int .i64 l1) ∧ Below W.heap.size W w') := Lib.hid (fun W => by rw [← hl1]; exact Gap.rleft_any p _ _ W)
  have ID : Hid (∀ W, Calls Try.prog 50 #[.agg #[I r.fs, I r.ft]] W fun e w' => e = .returned (.bool i1) ∧ Below W.heap.size W w') := Lib.hid (fun W => by rw [← hi1]; exact Ped.idle_any _ _ W)
  have ID2 : Hid (∀ W, Calls Try.prog 50 #[.agg #[I a, I b]] W fun e w' => e = .returned (.bool i2) ∧ Below W.heap.size W w') := Lib.hid (fun W => by rw [← hi2]; exact Ped.idle_any _ _ W)
  have LM : Hid (∀ W, Calls Try.prog 21 #[.agg p.cells.toArray, .agg #[I r.tl, I r.tu, I r.td]] W fun e w' => e = .returned (.int .i64 lm1) ∧ Below W.heap.size W w') := Lib.hid (fun W => by rw [← hlm]; exact Gap.rlim_any p _ _ _ W)
  have HF := Lib.hid hf
  clear hf hn1 hn2 he1 hl1 hi1 hi2 hlm
  have hn0 := Blk.Bks.nil w
  have hn1 := hn0.alloc p.cells.toArray 23
  have hn2 := hn1.alloc (Ru.cells r).toArray 29
  rw [show (w.alloc (.cells p.cells.toArray 23)).heap.size = w.heap.size + 1 by simp] at hn2
  have hn3 := hn2.alloc c.cells.toArray 31
  rw [show ((w.alloc (.cells p.cells.toArray 23)).alloc (.cells (Ru.cells r).toArray 29)).heap.size = w.heap.size + 1 + 1 by simp] at hn3
  have hn4 := hn3.alloc #[I 0, I 0, I 0, I 0, I 0, I 0, I 0, .bool false, .bool false, I 0, I 0, I 0] 29
  rw [show (((w.alloc (.cells p.cells.toArray 23)).alloc (.cells (Ru.cells r).toArray 29)).alloc (.cells c.cells.toArray 31)).heap.size = w.heap.size + 1 + 1 + 1 by simp] at hn4
  clear hn0
  clear hn1
  clear hn2
  clear hn3
  go_enter Try.func24, Try.ntmps24
  go_upto_region 1 with fail
  generalize World.alloc (World.alloc (World.alloc (World.alloc w _) _) _) _ = v at hn4 ⊢
  generalize hg3 : w.heap.size + 1 + 1 + 1 = gz at hn4 ⊢
  generalize hg2 : w.heap.size + 1 + 1 = gc at hn4 ⊢
  generalize hg1 : w.heap.size + 1 = gr at hn4 ⊢
  generalize hg0 : w.heap.size = gp at hn4 ⊢
  clear hg0 hg1 hg2 hg3
  have H0 := Lib.hid hn4
  clear hn4
  go_upto_region 2 with (first | (refine Row.wpList_load_g 29 _ rfl (by first | rfl | (go_simp; done) | fail) ⟨gr, 0, none⟩ rfl r.cells _ (seg H0.out 2 0 rfl _ rfl) Try.underlying29 rfl infoRu ?_) | (refine Row.wpList_store_new rfl 29 _ _ rfl _ _ (Ru.cells r).toArray rfl rfl rfl infoRu rfl (one_ru _) ?_))
  have hn := H0.out.alloc (Ru.cells r).toArray 29
  generalize World.alloc v _ = v1 at hn ⊢
  generalize v.heap.size = gn at hn ⊢
  have H1 := Lib.hid hn
  clear hn
  clear H0
  rename_i K hK
  have HK := Lib.hid hK
  clear hK
  have t_rtm : v1.cell? ⟨gr, 1, none⟩ = some (I r.tm) := H1.out.cell 3 1 rfl rfl
  have n_tm : v1.cell? ⟨gn, 1, none⟩ = some (I r.tm) := H1.out.cell 0 1 rfl rfl
  have f_tm : v1.frozen? ⟨gn, 1, none⟩ = false := H1.out.frozen 0 1 rfl
  go_wp2_with (go_at_call 25; with_reducible refine (O1.out _).mono ?_; rintro e w' ⟨rfl, rfl⟩)
  have hput := H1.out.set 0 1 rfl (I n1)
  rw [show Array.setIfInBounds _ 1 (I n1) = (Ru.cells ⟨r.co, n1, r.fs, r.ft, r.lf, r.pr, r.ex, r.dn, r.mx, r.tl, r.tu, r.td⟩).toArray from rfl] at hput
  simp only [List.set_cons_succ, List.set_cons_zero] at hput
  generalize World.setCell v1 _ _ = v2 at hput ⊢
  have H2 := Lib.hid hput
  clear hput
  clear H1 t_rtm n_tm f_tm O1
  refine HK.out _ _ ?_
  clear HK K
  apply wp_seq_k
  intro K hK
  have HK := Lib.hid hK
  clear hK
  go_cut [] from 11 (fun wx => Blk.Bks w [(gn, (Ru.cells ⟨r.co, n1, a, b, r.lf, r.pr, r.ex, r.dn, r.mx, r.tl, r.tu, r.td⟩).toArray, 29), (gz, #[I 0, I 0, I 0, I 0, I 0, I 0, I 0, .bool false, .bool false, I 0, I 0, I 0], 29), (gc, c.cells.toArray, 31), (gr, r.cells.toArray, 29), (gp, p.cells.toArray, 23)] wx)
  case first =>
    have t_ckt : v2.cell? ⟨gc, 7, none⟩ = some (.bool c.kt) := H2.out.cell 2 7 rfl rfl
    have t_rfs : v2.cell? ⟨gr, 2, none⟩ = some (I r.fs) := H2.out.cell 3 2 rfl rfl
    have t_cpu : v2.cell? ⟨gc, 3, none⟩ = some (.bool c.pu) := H2.out.cell 2 3 rfl rfl
    have t_cps : v2.cell? ⟨gc, 4, none⟩ = some (.bool c.ps) := H2.out.cell 2 4 rfl rfl
    have hf := HF.out
    unfold fooA at hf
    obtain ⟨pu, hpu⟩ : ∃ x, c.pu = x := ⟨_, rfl⟩
    obtain ⟨ps, hps⟩ : ∃ x, c.ps = x := ⟨_, rfl⟩
    obtain ⟨kt, hkt⟩ : ∃ x, c.kt = x := ⟨_, rfl⟩
    obtain ⟨fs, hfs⟩ : ∃ x, r.fs = x := ⟨_, rfl⟩
    rw [hpu, hps, hkt, hfs] at hf
    rw [hpu] at t_cpu
    rw [hps] at t_cps
    rw [hkt] at t_ckt
    rw [hfs] at t_rfs
    cases kt
    · rw [if_neg (by simp)] at hf
      cases pu
      · replace hf : ft p.walk p.blinks fs r.ft false = ⟨a, b⟩ := hf
        have CU : Hid (∀ W, Calls Try.prog 26 #[.agg p.cells.toArray, .agg #[I fs, I r.ft], .bool false] W fun e w' => e = .returned (.agg #[I a, I b]) ∧ Below W.heap.size W w') := Lib.hid (fun W => Ped.foot_is hf W)
        clear hf
        go_wp2_with (first | (refine Row.wpList_load_g 23 _ rfl (by first | rfl | (go_simp; done) | fail) ⟨gp, 0, none⟩ rfl p.cells _ (seg H2.out 4 0 rfl _ rfl) Try.underlying23 rfl infoP ?_) | (refine Row.wpList_load_g 25 _ rfl (by first | rfl | (go_simp; done) | fail) ⟨gr, 2, none⟩ rfl [I fs, I r.ft] _ (seg H2.out 3 2 rfl _ (by first | rfl | (rw [← hfs]; rfl))) Try.underlying25 rfl infoFt ?_))
        refine (CU.out _).mono ?_
        rintro e v3 ⟨rfl, bc⟩
        have H3 := Lib.hid (H2.out.step bc)
        clear bc
        go_wp2_with (refine store_mid rfl 25 _ _ rfl gn 2 #[I a, I b] rfl rfl 29 _ (Ru.cells ⟨r.co, n1, a, b, r.lf, r.pr, r.ex, r.dn, r.mx, r.tl, r.tu, r.td⟩).toArray H3.out 0 rfl infoFt (by first | decide | (simp [Ru.cells]; done) | fail) (by simp [Value.oneCell']) rfl ?_)
        have hput := H3.out.put 0 rfl (Ru.cells ⟨r.co, n1, a, b, r.lf, r.pr, r.ex, r.dn, r.mx, r.tl, r.tu, r.td⟩).toArray
        simp only [List.set_cons_succ, List.set_cons_zero] at hput
        generalize World.setRow _ gn _ = v4 at hput ⊢
        have H4 := Lib.hid hput
        clear hput
        go_meet
        case rel => exact H4.out
      · cases ps
        · replace hf : ft p.walk p.blinks fs r.ft true = ⟨a, b⟩ := hf
          have CU : Hid (∀ W, Calls Try.prog 26 #[.agg p.cells.toArray, .agg #[I fs, I r.ft], .bool true] W fun e w' => e = .returned (.agg #[I a, I b]) ∧ Below W.heap.size W w') := Lib.hid (fun W => Ped.foot_is hf W)
          clear hf
          go_wp2_with (first | (refine Row.wpList_load_g 23 _ rfl (by first | rfl | (go_simp; done) | fail) ⟨gp, 0, none⟩ rfl p.cells _ (seg H2.out 4 0 rfl _ rfl) Try.underlying23 rfl infoP ?_) | (refine Row.wpList_load_g 25 _ rfl (by first | rfl | (go_simp; done) | fail) ⟨gr, 2, none⟩ rfl [I fs, I r.ft] _ (seg H2.out 3 2 rfl _ (by first | rfl | (rw [← hfs]; rfl))) Try.underlying25 rfl infoFt ?_))
          refine (CU.out _).mono ?_
          rintro e v3 ⟨rfl, bc⟩
          have H3 := Lib.hid (H2.out.step bc)
          clear bc
          go_wp2_with (refine store_mid rfl 25 _ _ rfl gn 2 #[I a, I b] rfl rfl 29 _ (Ru.cells ⟨r.co, n1, a, b, r.lf, r.pr, r.ex, r.dn, r.mx, r.tl, r.tu, r.td⟩).toArray H3.out 0 rfl infoFt (by first | decide | (simp [Ru.cells]; done) | fail) (by simp [Value.oneCell']) rfl ?_)
          have hput := H3.out.put 0 rfl (Ru.cells ⟨r.co, n1, a, b, r.lf, r.pr, r.ex, r.dn, r.mx, r.tl, r.tu, r.td⟩).toArray
          simp only [List.set_cons_succ, List.set_cons_zero] at hput
          generalize World.setRow _ gn _ = v4 at hput ⊢
          have H4 := Lib.hid hput
          clear hput
          go_meet
          case rel => exact H4.out
        · replace hf : ft p.walk p.blinks fs r.ft false = ⟨a, b⟩ := hf
          have CU : Hid (∀ W, Calls Try.prog 26 #[.agg p.cells.toArray, .agg #[I fs, I r.ft], .bool false] W fun e w' => e = .returned (.agg #[I a, I b]) ∧ Below W.heap.size W w') := Lib.hid (fun W => Ped.foot_is hf W)
          clear hf
          go_wp2_with (first | (refine Row.wpList_load_g 23 _ rfl (by first | rfl | (go_simp; done) | fail) ⟨gp, 0, none⟩ rfl p.cells _ (seg H2.out 4 0 rfl _ rfl) Try.underlying23 rfl infoP ?_) | (refine Row.wpList_load_g 25 _ rfl (by first | rfl | (go_simp; done) | fail) ⟨gr, 2, none⟩ rfl [I fs, I r.ft] _ (seg H2.out 3 2 rfl _ (by first | rfl | (rw [← hfs]; rfl))) Try.underlying25 rfl infoFt ?_))
          refine (CU.out _).mono ?_
          rintro e v3 ⟨rfl, bc⟩
          have H3 := Lib.hid (H2.out.step bc)
          clear bc
          go_wp2_with (refine store_mid rfl 25 _ _ rfl gn 2 #[I a, I b] rfl rfl 29 _ (Ru.cells ⟨r.co, n1, a, b, r.lf, r.pr, r.ex, r.dn, r.mx, r.tl, r.tu, r.td⟩).toArray H3.out 0 rfl infoFt (by first | decide | (simp [Ru.cells]; done) | fail) (by simp [Value.oneCell']) rfl ?_)
          have hput := H3.out.put 0 rfl (Ru.cells ⟨r.co, n1, a, b, r.lf, r.pr, r.ex, r.dn, r.mx, r.tl, r.tu, r.td⟩).toArray
          simp only [List.set_cons_succ, List.set_cons_zero] at hput
          generalize World.setRow _ gn _ = v4 at hput ⊢
          have H4 := Lib.hid hput
          clear hput
          go_meet
          case rel => exact H4.out
    by_cases h1 : fs = 1
    · subst h1
      rw [if_pos ⟨rfl, rfl⟩] at hf
      have CU : Hid (∀ W, Calls Try.prog 49 #[.agg #[I 1, I r.ft]] W fun e w' => e = .returned (.agg #[I a, I b]) ∧ Below W.heap.size W w') := Lib.hid (fun W => Ped.rcut_is hf W)
      clear hf
      go_wp2_with (first | (refine Row.wpList_load_g 25 _ rfl (by first | rfl | (go_simp; done) | fail) ⟨gr, 2, none⟩ rfl [I 1, I r.ft] _ (seg H2.out 3 2 rfl _ (by first | rfl | (rw [← hfs]; rfl))) Try.underlying25 rfl infoFt ?_))
      refine (CU.out _).mono ?_
      rintro e v3 ⟨rfl, bc⟩
      have H3 := Lib.hid (H2.out.step bc)
      clear bc
      go_wp2_with (refine store_mid rfl 25 _ _ rfl gn 2 #[I a, I b] rfl rfl 29 _ (Ru.cells ⟨r.co, n1, a, b, r.lf, r.pr, r.ex, r.dn, r.mx, r.tl, r.tu, r.td⟩).toArray H3.out 0 rfl infoFt (by first | decide | (simp [Ru.cells]; done) | fail) (by simp [Value.oneCell']) rfl ?_)
      have hput := H3.out.put 0 rfl (Ru.cells ⟨r.co, n1, a, b, r.lf, r.pr, r.ex, r.dn, r.mx, r.tl, r.tu, r.td⟩).toArray
      simp only [List.set_cons_succ, List.set_cons_zero] at hput
      generalize World.setRow _ gn _ = v4 at hput ⊢
      have H4 := Lib.hid hput
      clear hput
      go_meet
      case rel => exact H4.out
    have z1 : (fs == 1) = false := by rw [beq_eq_false_iff_ne]; exact h1
    rw [if_neg (fun h => h1 h.2)] at hf
    cases pu
    · replace hf : ft p.walk p.blinks fs r.ft false = ⟨a, b⟩ := hf
      have CU : Hid (∀ W, Calls Try.prog 26 #[.agg p.cells.toArray, .agg #[I fs, I r.ft], .bool false] W fun e w' => e = .returned (.agg #[I a, I b]) ∧ Below W.heap.size W w') := Lib.hid (fun W => Ped.foot_is hf W)
      clear hf
      go_wp2_with (first | (refine Row.wpList_load_g 23 _ rfl (by first | rfl | (go_simp; done) | fail) ⟨gp, 0, none⟩ rfl p.cells _ (seg H2.out 4 0 rfl _ rfl) Try.underlying23 rfl infoP ?_) | (refine Row.wpList_load_g 25 _ rfl (by first | rfl | (go_simp; done) | fail) ⟨gr, 2, none⟩ rfl [I fs, I r.ft] _ (seg H2.out 3 2 rfl _ (by first | rfl | (rw [← hfs]; rfl))) Try.underlying25 rfl infoFt ?_))
      refine (CU.out _).mono ?_
      rintro e v3 ⟨rfl, bc⟩
      have H3 := Lib.hid (H2.out.step bc)
      clear bc
      go_wp2_with (refine store_mid rfl 25 _ _ rfl gn 2 #[I a, I b] rfl rfl 29 _ (Ru.cells ⟨r.co, n1, a, b, r.lf, r.pr, r.ex, r.dn, r.mx, r.tl, r.tu, r.td⟩).toArray H3.out 0 rfl infoFt (by first | decide | (simp [Ru.cells]; done) | fail) (by simp [Value.oneCell']) rfl ?_)
      have hput := H3.out.put 0 rfl (Ru.cells ⟨r.co, n1, a, b, r.lf, r.pr, r.ex, r.dn, r.mx, r.tl, r.tu, r.td⟩).toArray
      simp only [List.set_cons_succ, List.set_cons_zero] at hput
      generalize World.setRow _ gn _ = v4 at hput ⊢
      have H4 := Lib.hid hput
      clear hput
      go_meet
      case rel => exact H4.out
    · cases ps
      · replace hf : ft p.walk p.blinks fs r.ft true = ⟨a, b⟩ := hf
        have CU : Hid (∀ W, Calls Try.prog 26 #[.agg p.cells.toArray, .agg #[I fs, I r.ft], .bool true] W fun e w' => e = .returned (.agg #[I a, I b]) ∧ Below W.heap.size W w') := Lib.hid (fun W => Ped.foot_is hf W)
        clear hf
        go_wp2_with (first | (refine Row.wpList_load_g 23 _ rfl (by first | rfl | (go_simp; done) | fail) ⟨gp, 0, none⟩ rfl p.cells _ (seg H2.out 4 0 rfl _ rfl) Try.underlying23 rfl infoP ?_) | (refine Row.wpList_load_g 25 _ rfl (by first | rfl | (go_simp; done) | fail) ⟨gr, 2, none⟩ rfl [I fs, I r.ft] _ (seg H2.out 3 2 rfl _ (by first | rfl | (rw [← hfs]; rfl))) Try.underlying25 rfl infoFt ?_))
        refine (CU.out _).mono ?_
        rintro e v3 ⟨rfl, bc⟩
        have H3 := Lib.hid (H2.out.step bc)
        clear bc
        go_wp2_with (refine store_mid rfl 25 _ _ rfl gn 2 #[I a, I b] rfl rfl 29 _ (Ru.cells ⟨r.co, n1, a, b, r.lf, r.pr, r.ex, r.dn, r.mx, r.tl, r.tu, r.td⟩).toArray H3.out 0 rfl infoFt (by first | decide | (simp [Ru.cells]; done) | fail) (by simp [Value.oneCell']) rfl ?_)
        have hput := H3.out.put 0 rfl (Ru.cells ⟨r.co, n1, a, b, r.lf, r.pr, r.ex, r.dn, r.mx, r.tl, r.tu, r.td⟩).toArray
        simp only [List.set_cons_succ, List.set_cons_zero] at hput
        generalize World.setRow _ gn _ = v4 at hput ⊢
        have H4 := Lib.hid hput
        clear hput
        go_meet
        case rel => exact H4.out
      · replace hf : ft p.walk p.blinks fs r.ft false = ⟨a, b⟩ := hf
        have CU : Hid (∀ W, Calls Try.prog 26 #[.agg p.cells.toArray, .agg #[I fs, I r.ft], .bool false] W fun e w' => e = .returned (.agg #[I a, I b]) ∧ Below W.heap.size W w') := Lib.hid (fun W => Ped.foot_is hf W)
        clear hf
        go_wp2_with (first | (refine Row.wpList_load_g 23 _ rfl (by first | rfl | (go_simp; done) | fail) ⟨gp, 0, none⟩ rfl p.cells _ (seg H2.out 4 0 rfl _ rfl) Try.underlying23 rfl infoP ?_) | (refine Row.wpList_load_g 25 _ rfl (by first | rfl | (go_simp; done) | fail) ⟨gr, 2, none⟩ rfl [I fs, I r.ft] _ (seg H2.out 3 2 rfl _ (by first | rfl | (rw [← hfs]; rfl))) Try.underlying25 rfl infoFt ?_))
        refine (CU.out _).mono ?_
        rintro e v3 ⟨rfl, bc⟩
        have H3 := Lib.hid (H2.out.step bc)
        clear bc
        go_wp2_with (refine store_mid rfl 25 _ _ rfl gn 2 #[I a, I b] rfl rfl 29 _ (Ru.cells ⟨r.co, n1, a, b, r.lf, r.pr, r.ex, r.dn, r.mx, r.tl, r.tu, r.td⟩).toArray H3.out 0 rfl infoFt (by first | decide | (simp [Ru.cells]; done) | fail) (by simp [Value.oneCell']) rfl ?_)
        have hput := H3.out.put 0 rfl (Ru.cells ⟨r.co, n1, a, b, r.lf, r.pr, r.ex, r.dn, r.mx, r.tl, r.tu, r.td⟩).toArray
        simp only [List.set_cons_succ, List.set_cons_zero] at hput
        generalize World.setRow _ gn _ = v4 at hput ⊢
        have H4 := Lib.hid hput
        clear hput
        go_meet
        case rel => exact H4.out
  case rest =>
  have H5 := Lib.hid hcut
  clear hcut
  rename World => v5
  clear H2 HF
  refine HK.out _ _ ?_
  clear HK K
  apply wp_seq_k
  intro K hK
  have HK := Lib.hid hK
  clear hK
  go_cut [] from 11 (fun wx => Blk.Bks w [(gn, (Ru.cells ⟨r.co, n1, a, b, r.lf, r.pr, r.ex, dn1, mx1, r.tl, r.tu, r.td⟩).toArray, 29), (gz, #[I 0, I 0, I 0, I 0, I 0, I 0, I 0, .bool false, .bool false, I 0, I 0, I 0], 29), (gc, c.cells.toArray, 31), (gr, r.cells.toArray, 29), (gp, p.cells.toArray, 23)] wx)
  case first =>
    go_wp2_with (refine Row.wpList_load_g 25 _ rfl (by first | rfl | (go_simp; done) | fail) ⟨gr, 2, none⟩ rfl [I r.fs, I r.ft] _ (seg H5.out 3 2 rfl _ rfl) Try.underlying25 rfl infoFt ?_)
    refine (ID.out _).mono ?_
    rintro e v6 ⟨rfl, bc⟩
    have H6 := Lib.hid (H5.out.step bc)
    clear bc
    cases i1
    · have e1 : dn1 = r.dn := by rw [← HN.out]; simp
      have e2 : mx1 = r.mx := by rw [← HM.out]; simp
      go_wp2_with fail
      go_meet
      case rel => rw [e1, e2]; exact H6.out
    have n_fs : v6.cell? ⟨gn, 2, none⟩ = some (I a) := H6.out.cell 0 2 rfl rfl
    by_cases h1 : a = 1
    rotate_left
    · have z1 : (a == 1) = false := by rw [beq_eq_false_iff_ne]; exact h1
      have e1 : dn1 = r.dn := by rw [← HN.out]; simp [h1]
      have e2 : mx1 = r.mx := by rw [← HM.out]; simp [h1]
      go_wp2_with fail
      go_meet
      case rel => rw [e1, e2]; exact H6.out
    have z1 : (a == 1) = true := by rw [beq_iff_eq]; exact h1
    have e1 : dn1 = false := by rw [← HN.out]; simp [h1]
    have e2 : mx1 = false := by rw [← HM.out]; simp [h1]
    clear h1
    have n_dn : v6.cell? ⟨gn, 7, none⟩ = some (.bool r.dn) := H6.out.cell 0 7 rfl rfl
    have f_dn : v6.frozen? ⟨gn, 7, none⟩ = false := H6.out.frozen 0 7 rfl
    have n_mx : v6.cell? ⟨gn, 8, none⟩ = some (.bool r.mx) := H6.out.cell 0 8 rfl rfl
    have f_mx : v6.frozen? ⟨gn, 8, none⟩ = false := H6.out.frozen 0 8 rfl
    go_wp2_with fail
    have hput := (H6.out.set 0 7 rfl (.bool false)).set 0 8 rfl (.bool false)
    rw [show Array.setIfInBounds (Array.setIfInBounds _ 7 (.bool false)) 8 (.bool false) = (Ru.cells ⟨r.co, n1, a, b, r.lf, r.pr, r.ex, false, false, r.tl, r.tu, r.td⟩).toArray from rfl] at hput
    simp only [List.set_cons_succ, List.set_cons_zero] at hput
    generalize World.setCell (World.setCell v6 _ _) _ _ = v9 at hput ⊢
    go_meet
    case rel => rw [e1, e2]; exact hput
  case rest =>
  have H7 := Lib.hid hcut
  clear hcut
  rename World => v7
  clear H5 ID
  refine HK.out _ _ ?_
  clear HK K
  go_upto_region 9 with fail
  rename_i K hK
  have HK := Lib.hid hK
  clear hK
  have t_rlf : v7.cell? ⟨gr, 4, none⟩ = some (I r.lf) := H7.out.cell 3 4 rfl rfl
  have t_che : v7.cell? ⟨gc, 2, none⟩ = some (.bool c.he) := H7.out.cell 2 2 rfl rfl
  go_wp2_with (refine Row.wpList_load_g 23 _ rfl (by first | rfl | (go_simp; done) | fail) ⟨gp, 0, none⟩ rfl p.cells _ (seg H7.out 4 0 rfl _ rfl) Try.underlying23 rfl infoP ?_)
  refine (LE.out _).mono ?_
  rintro e v8 ⟨rfl, bc⟩
  have H8 := Lib.hid (H7.out.step bc)
  clear bc
  clear H7 LE t_rlf t_che
  have n_lf : v8.cell? ⟨gn, 4, none⟩ = some (I r.lf) := H8.out.cell 0 4 rfl rfl
  have f_lf : v8.frozen? ⟨gn, 4, none⟩ = false := H8.out.frozen 0 4 rfl
  go_wp2_with fail
  have hput := H8.out.set 0 4 rfl (I l1)
  rw [show Array.setIfInBounds _ 4 (I l1) = (Ru.cells ⟨r.co, n1, a, b, l1, r.pr, r.ex, dn1, mx1, r.tl, r.tu, r.td⟩).toArray from rfl] at hput
  simp only [List.set_cons_succ, List.set_cons_zero] at hput
  generalize World.setCell v8 _ _ = v9 at hput ⊢
  have H9 := Lib.hid hput
  clear hput
  clear H8 n_lf f_lf
  refine HK.out _ _ ?_
  clear HK K
  apply wp_seq_k
  intro K hK
  have HK := Lib.hid hK
  clear hK
  go_cut [] from 11 (fun wx => Blk.Bks w [(gn, (Ru.cells ⟨r.co, n1, a, b, l1, pr1, r.ex, dn1, mx1, r.tl, r.tu, r.td⟩).toArray, 29), (gz, #[I 0, I 0, I 0, I 0, I 0, I 0, I 0, .bool false, .bool false, I 0, I 0, I 0], 29), (gc, c.cells.toArray, 31), (gr, r.cells.toArray, 29), (gp, p.cells.toArray, 23)] wx)
  case first =>
    have t_cps : v9.cell? ⟨gc, 4, none⟩ = some (.bool c.ps) := H9.out.cell 2 4 rfl rfl
    have t_rpr : v9.cell? ⟨gr, 5, none⟩ = some (I r.pr) := H9.out.cell 3 5 rfl rfl
    obtain ⟨ps, hps⟩ : ∃ x, c.ps = x := ⟨_, rfl⟩
    rw [hps] at t_cps
    cases ps
    · have e1 : pr1 = r.pr := by rw [← HP1.out, hps]; rfl
      clear hps
      go_wp2_with fail
      go_meet
      case rel => rw [e1]; exact H9.out
    have e1 : pr1 = n2 := by rw [← HP1.out, hps]; rfl
    clear hps
    have n_pr : v9.cell? ⟨gn, 5, none⟩ = some (I r.pr) := H9.out.cell 0 5 rfl rfl
    have f_pr : v9.frozen? ⟨gn, 5, none⟩ = false := H9.out.frozen 0 5 rfl
    go_wp2_with (go_at_call 25; with_reducible refine (O2.out _).mono ?_; rintro e w' ⟨rfl, rfl⟩)
    have hput := H9.out.set 0 5 rfl (I n2)
    rw [show Array.setIfInBounds _ 5 (I n2) = (Ru.cells ⟨r.co, n1, a, b, l1, n2, r.ex, dn1, mx1, r.tl, r.tu, r.td⟩).toArray from rfl] at hput
    simp only [List.set_cons_succ, List.set_cons_zero] at hput
    generalize World.setCell v9 _ _ = va at hput ⊢
    have HA := Lib.hid hput
    clear hput
    go_meet
    case rel => rw [e1]; exact HA.out
  case rest =>
  have HB := Lib.hid hcut
  clear hcut
  rename World => vb
  clear H9 O2
  refine HK.out _ _ ?_
  clear HK K
  go_upto_region 12 with fail
  (try dsimp only [Act.put])
  have q1 : ∀ q : QB.By vb.heap.size vb, q.world.cell? ⟨gn, 5, none⟩ = some (I pr1) := fun q => (HB.out.by q).cell 0 5 rfl rfl
  refine QB.region_below vb.heap.size (by kernel_rfl) (by kernel_rfl) ?_
  repeat first
    | (refine wpQuiet_load rfl 23 _ rfl ⟨gp, 0, none⟩ rfl p.cells _ (fun w' ⟨pw, e⟩ => by rw [e]; exact seg (HB.out.by pw) 4 0 rfl _ rfl) Try.underlying23 rfl infoP ?_
       dsimp only [Act.put]
       simp only [List.setIfInBounds_toArray, List.set_cons_zero, List.set_cons_succ])
    | (refine wpQuiet_load rfl 27 _ rfl ⟨gr, 9, none⟩ rfl [I r.tl, I r.tu, I r.td] _ (fun w' ⟨pw, e⟩ => by rw [e]; exact seg (HB.out.by pw) 3 9 rfl _ rfl) Try.underlying27 rfl infoTn ?_
       dsimp only [Act.put]
       simp only [List.setIfInBounds_toArray, List.set_cons_zero, List.set_cons_succ])
    | ((quiet_step (first | (go_at_call 21; with_reducible exact QB.call_of (Nat.le_refl _) (fun b => LM.out _)))))
  refine wpQuiet_nil ?_
  intro _ hw'
  obtain ⟨pq, rfl⟩ := hw'
  have HP := Lib.hid (HB.out.by pq)
  clear q1 HB LM
  generalize pq.world = vc at HP ⊢
  have eL : decide (lm1 ≤ pr1) = lng := HL.out
  go_upto_region 13 with fail
  (try simp only [ge_iff_le])
  rw [eL]
  clear eL
  rename_i K hK
  have HK := Lib.hid hK
  clear hK
  go_cut [10] from 11 (fun t10 wx => t10 = .bool du ∧ Blk.Bks w [(gn, (Ru.cells ⟨r.co, n1, a, b, l1, pr1, r.ex, dn1, mx1, r.tl, r.tu, r.td⟩).toArray, 29), (gz, #[I 0, I 0, I 0, I 0, I 0, I 0, I 0, .bool false, .bool false, I 0, I 0, I 0], 29), (gc, c.cells.toArray, 31), (gr, r.cells.toArray, 29), (gp, p.cells.toArray, 23)] wx)
  case first =>
    have t_cps : vc.cell? ⟨gc, 4, none⟩ = some (.bool c.ps) := HP.out.cell 2 4 rfl rfl
    have t_pmin : vc.cell? ⟨gp, 1, none⟩ = some (I p.min) := HP.out.cell 4 1 rfl rfl
    have t_cea : vc.cell? ⟨gc, 6, none⟩ = some (.bool c.ea) := HP.out.cell 2 6 rfl rfl
    have n_tm : vc.cell? ⟨gn, 1, none⟩ = some (I n1) := HP.out.cell 0 1 rfl rfl
    have n_dn : vc.cell? ⟨gn, 7, none⟩ = some (.bool dn1) := HP.out.cell 0 7 rfl rfl
    have n_lf : vc.cell? ⟨gn, 4, none⟩ = some (I l1) := HP.out.cell 0 4 rfl rfl
    have hd := HDU.out
    obtain ⟨ps, hps⟩ : ∃ x, c.ps = x := ⟨_, rfl⟩
    obtain ⟨ea, hea⟩ : ∃ x, c.ea = x := ⟨_, rfl⟩
    obtain ⟨mi, hmi⟩ : ∃ x, p.min = x := ⟨_, rfl⟩
    rw [hps, hea, hmi] at hd
    rw [hps] at t_cps
    rw [hmi] at t_pmin
    rw [hea] at t_cea
    cases ps
    · have e1 : du = false := by rw [← hd]; clear hd; simp [*]
      clear hd
      go_wp2_with fail
      go_meet
      case rel => exact ⟨by rw [e1], HP.out⟩
    cases dn1
    rotate_left
    · have e1 : du = false := by rw [← hd]; clear hd; simp [*]
      clear hd
      go_wp2_with fail
      go_meet
      case rel => exact ⟨by rw [e1], HP.out⟩
    by_cases h1 : mi ≤ n1
    rotate_left
    · have e1 : du = false := by rw [← hd]; clear hd; simp [*]
      clear hd
      go_wp2_with fail
      go_meet
      case rel => exact ⟨by rw [e1], HP.out⟩
    go_wp2_with (refine Row.wpList_load_g 25 _ rfl (by first | rfl | (go_simp; done) | fail) ⟨gn, 2, none⟩ rfl [I a, I b] _ (seg HP.out 0 2 rfl _ rfl) Try.underlying25 rfl infoFt ?_)
    refine (ID2.out _).mono ?_
    rintro e vd ⟨rfl, bc⟩
    have HQ := Lib.hid (HP.out.step bc)
    clear bc
    clear t_cps t_pmin t_cea n_tm n_dn n_lf
    have t_cea : vd.cell? ⟨gc, 6, none⟩ = some (.bool c.ea) := HQ.out.cell 2 6 rfl rfl
    have n_lf : vd.cell? ⟨gn, 4, none⟩ = some (I l1) := HQ.out.cell 0 4 rfl rfl
    rw [hea] at t_cea
    cases i2
    · have e1 : du = false := by rw [← hd]; clear hd; simp [*]
      clear hd
      go_wp2_with fail
      go_meet
      case rel => exact ⟨by rw [e1], HQ.out⟩
    by_cases h2 : l1 = 0
    · have z2 : (l1 == 0) = true := by rw [beq_iff_eq]; exact h2
      have e1 : du = true := by rw [← hd]; clear hd; simp [*]
      clear hd
      go_wp2_with fail
      go_meet
      case rel => exact ⟨by rw [e1], HQ.out⟩
    have z2 : (l1 == 0) = false := by rw [beq_eq_false_iff_ne]; exact h2
    cases lng
    · cases ea
      · have e1 : du = false := by rw [← hd]; clear hd; simp [*]
        clear hd
        go_wp2_with fail
        go_meet
        case rel => exact ⟨by rw [e1], HQ.out⟩
      · have e1 : du = true := by rw [← hd]; clear hd; simp [*]
        clear hd
        go_wp2_with fail
        go_meet
        case rel => exact ⟨by rw [e1], HQ.out⟩
    · have e1 : du = true := by rw [← hd]; clear hd; simp [*]
      clear hd
      go_wp2_with fail
      go_meet
      case rel => exact ⟨by rw [e1], HQ.out⟩
  case rest =>
  obtain ⟨rfl, hcut⟩ := hcut
  have HE := Lib.hid hcut
  clear hcut
  rename World => ve
  clear HP ID2
  refine HK.out _ _ ?_
  clear HK K
  apply wp_seq_k
  intro K hK
  have HK := Lib.hid hK
  clear hK
  go_cut [] from 11 (fun wx => Blk.Bks w [(gn, (Ru.cells ⟨r.co, n1, a, b, l1, pr1, ex1, dn1, mx1, r.tl, r.tu, r.td⟩).toArray, 29), (gz, #[I 0, I 0, I 0, I 0, I 0, I 0, I 0, .bool false, .bool false, I 0, I 0, I 0], 29), (gc, c.cells.toArray, 31), (gr, r.cells.toArray, 29), (gp, p.cells.toArray, 23)] wx)
  case first =>
    have t_cho : ve.cell? ⟨gc, 5, none⟩ = some (.bool c.ho) := HE.out.cell 2 5 rfl rfl
    have t_rex : ve.cell? ⟨gr, 6, none⟩ = some (I r.ex) := HE.out.cell 3 6 rfl rfl
    have hx := HEX.out
    obtain ⟨ho, hho⟩ : ∃ x, c.ho = x := ⟨_, rfl⟩
    rw [hho] at hx t_cho
    cases du
    · have e1 : ex1 = r.ex := by rw [← hx]; simp
      clear hx
      go_wp2_with fail
      go_meet
      case rel => rw [e1]; exact HE.out
    cases ho
    · have e1 : ex1 = r.ex := by rw [← hx]; simp
      clear hx
      go_wp2_with fail
      go_meet
      case rel => rw [e1]; exact HE.out
    have e2 : ex1 = e1 := by rw [← hx]; simp
    clear hx
    have n_ex : ve.cell? ⟨gn, 6, none⟩ = some (I r.ex) := HE.out.cell 0 6 rfl rfl
    have f_ex : ve.frozen? ⟨gn, 6, none⟩ = false := HE.out.frozen 0 6 rfl
    go_wp2_with (go_at_call 25; with_reducible refine (O3.out _).mono ?_; rintro e w' ⟨rfl, rfl⟩)
    have hput := HE.out.set 0 6 rfl (I e1)
    rw [show Array.setIfInBounds _ 6 (I e1) = (Ru.cells ⟨r.co, n1, a, b, l1, pr1, e1, dn1, mx1, r.tl, r.tu, r.td⟩).toArray from rfl] at hput
    simp only [List.set_cons_succ, List.set_cons_zero] at hput
    generalize World.setCell ve _ _ = vf at hput ⊢
    have HG := Lib.hid hput
    clear hput
    go_meet
    case rel => rw [e2]; exact HG.out
  case rest =>
  have HG := Lib.hid hcut
  clear hcut
  rename World => vg
  clear HE O3
  refine HK.out _ _ ?_
  clear HK K
  apply wp_seq_k
  intro K hK
  have HK := Lib.hid hK
  clear hK
  go_cut [] from 11 (fun wx => Blk.Bks w [(gn, (Ru.cells ⟨r.co, n1, a, b, l1, pr1, ex1, dn2, mx2, r.tl, r.tu, r.td⟩).toArray, 29), (gz, #[I 0, I 0, I 0, I 0, I 0, I 0, I 0, .bool false, .bool false, I 0, I 0, I 0], 29), (gc, c.cells.toArray, 31), (gr, r.cells.toArray, 29), (gp, p.cells.toArray, 23)] wx)
  case first =>
    have t_cho : vg.cell? ⟨gc, 5, none⟩ = some (.bool c.ho) := HG.out.cell 2 5 rfl rfl
    have hx := HN2.out
    have hy := HM2.out
    obtain ⟨ho, hho⟩ : ∃ x, c.ho = x := ⟨_, rfl⟩
    rw [hho] at hx hy t_cho
    cases du
    · have e1 : dn2 = dn1 := by rw [← hx]; simp
      have e2 : mx2 = mx1 := by rw [← hy]; simp
      clear hx hy
      go_wp2_with fail
      go_meet
      case rel => rw [e1, e2]; exact HG.out
    cases ho
    rotate_left
    · have e1 : dn2 = dn1 := by rw [← hx]; simp
      have e2 : mx2 = mx1 := by rw [← hy]; simp
      clear hx hy
      go_wp2_with fail
      go_meet
      case rel => rw [e1, e2]; exact HG.out
    have n_dn : vg.cell? ⟨gn, 7, none⟩ = some (.bool dn1) := HG.out.cell 0 7 rfl rfl
    have f_dn : vg.frozen? ⟨gn, 7, none⟩ = false := HG.out.frozen 0 7 rfl
    have n_mx : vg.cell? ⟨gn, 8, none⟩ = some (.bool mx1) := HG.out.cell 0 8 rfl rfl
    have f_mx : vg.frozen? ⟨gn, 8, none⟩ = false := HG.out.frozen 0 8 rfl
    have n_lf : vg.cell? ⟨gn, 4, none⟩ = some (I l1) := HG.out.cell 0 4 rfl rfl
    by_cases h1 : 0 < l1
    · have e1 : dn2 = true := by rw [← hx]; simp
      have e2 : mx2 = lng := by rw [← hy]; simp [h1]
      clear hx hy
      go_wp2_with fail
      have hput := (HG.out.set 0 7 rfl (.bool true)).set 0 8 rfl (.bool lng)
      rw [show Array.setIfInBounds (Array.setIfInBounds _ 7 (.bool true)) 8 (.bool lng) = (Ru.cells ⟨r.co, n1, a, b, l1, pr1, ex1, true, lng, r.tl, r.tu, r.td⟩).toArray from rfl] at hput
      simp only [List.set_cons_succ, List.set_cons_zero] at hput
      generalize World.setCell (World.setCell vg _ _) _ _ = vh at hput ⊢
      go_meet
      case rel => rw [e1, e2]; exact hput
    · have e1 : dn2 = true := by rw [← hx]; simp
      have e2 : mx2 = false := by rw [← hy]; simp [h1]
      clear hx hy
      go_wp2_with fail
      have hput := (HG.out.set 0 7 rfl (.bool true)).set 0 8 rfl (.bool false)
      rw [show Array.setIfInBounds (Array.setIfInBounds _ 7 (.bool true)) 8 (.bool false) = (Ru.cells ⟨r.co, n1, a, b, l1, pr1, ex1, true, false, r.tl, r.tu, r.td⟩).toArray from rfl] at hput
      simp only [List.set_cons_succ, List.set_cons_zero] at hput
      generalize World.setCell (World.setCell vg _ _) _ _ = vh at hput ⊢
      go_meet
      case rel => rw [e1, e2]; exact hput
  case rest =>
  have HI := Lib.hid hcut
  clear hcut
  rename World => vi
  clear HG
  refine HK.out _ _ ?_
  clear HK K
  go_wp2_with (first | (refine Row.wpList_load_g 29 _ rfl (by first | rfl | (go_simp; done) | fail) ⟨gn, 0, none⟩ rfl (Ru.cells ⟨r.co, n1, a, b, l1, pr1, ex1, dn2, mx2, r.tl, r.tu, r.td⟩) _ (seg HI.out 0 0 rfl _ rfl) Try.underlying29 rfl infoRu ?_) | (refine wpList_store_row rfl 29 _ _ rfl gz (Ru.cells ⟨r.co, n1, a, b, l1, pr1, ex1, dn2, mx2, r.tl, r.tu, r.td⟩).toArray rfl rfl 29 _ (HI.out.at 1 rfl) infoRu rfl (one_ru _) ?_))
  have hput := HI.out.put 1 rfl (Ru.cells ⟨r.co, n1, a, b, l1, pr1, ex1, dn2, mx2, r.tl, r.tu, r.td⟩).toArray
  simp only [List.set_cons_succ, List.set_cons_zero] at hput
  generalize World.setRow vi gz _ = vz at hput ⊢
  have HZ := Lib.hid hput
  clear hput
  (try go_wp2_with fail)
  (try simp only [Exit.inBlock, Exit.then])
  refine bodyPost_ret (v := .tuple #[.agg (Ru.cells ⟨r.co, n1, a, b, l1, pr1, ex1, dn2, mx2, r.tl, r.tu, r.td⟩).toArray, .bool du]) ?_ rfl ⟨rfl, HZ.out.bel⟩
  exact Where.results_row_tmp (fn := Try.f24) (p := 6) (u := 7) (ty := 29) rfl _ _ gz 29 _ (0, 0) _ rfl (HZ.out.at 1 rfl) Try.underlying29 rfl infoRu
end Ru
namespace Ru
open Go Go.ChangeShapes Go.WideShapes Go.ChangeAt Go.RowKit
open Tab Flat TabArg QL
open May (infoP)
open Ped (ft cu idl Ft infoFt)
open Gap (lm lf gr Tn infoTn)
theorem wpQuiet_build {P : Program} {C : World → Prop} {ops : Array Oper} {Q : Act → Prop} {a : Act} {o : Oper} {rest : List Oper} (hw : Region.wanted o (yielded ops a.tmps) = true) (t : TypeId) (parts : List (Nat × Operand)) (ho : o.op = .build t parts.toArray) (cells : Array Value) (vs : List (Nat × Value)) (hv : parts.map (fun (i, x) => (i, a.eval x)) = vs) (hb : P.built t vs = some cells)
    (h : wpQuiet P ops C Q rest (a.put o.dst (.agg cells))) : wpQuiet P ops C Q (o :: rest) a :=
  wpQuiet_step fun K hK => by
    subst hv
    rw [if_pos hw]
    refine ⟨_, fun w hw' => ?_, hK _ h⟩
    unfold Oper.quietAt execOp
    have hb' : P.built t (parts.toArray.map fun (i, x) => (i, a.eval x)).toList = some cells := by simpa using hb
    simp only [ho, Sem.run_bind, run_build w t _ _ hb', Result.andThen_ok, Sem.run_pure]
    exact ⟨rfl, rfl⟩
theorem rstep_end (p : Ph) (r : Ru) (c : Cu) (hco : r.co = 1) (hen : c.en = true) (w : World) : Calls Try.prog 12 #[.agg p.cells.toArray, .agg r.cells.toArray, .agg c.cells.toArray] w fun e w' => e = .returned (.agg (Ru.cells (stp p r c)).toArray) ∧ Below w.heap.size w w' := by
  obtain ⟨⟨x, y, z⟩, ht⟩ : ∃ t, tre p r = t := ⟨_, rfl⟩
  have HE : Hid (stp p r c = ⟨2, 1, 0, 0, 0, 0, 0, false, false, x, y, z⟩) := Lib.hid (by unfold stp fin; rw [if_pos hco, if_pos hen, ht])
  obtain ⟨dn, hdn⟩ : ∃ x, r.dn = x := ⟨_, rfl⟩
  unfold tre at ht
  rw [hdn] at ht
  have hn0 := Blk.Bks.nil w
  have hn1 := hn0.alloc p.cells.toArray 23
  have hn2 := hn1.alloc (Ru.cells r).toArray 29
  rw [show (w.alloc (.cells p.cells.toArray 23)).heap.size = w.heap.size + 1 by simp] at hn2
  have hn3 := hn2.alloc c.cells.toArray 31
  rw [show ((w.alloc (.cells p.cells.toArray 23)).alloc (.cells (Ru.cells r).toArray 29)).heap.size = w.heap.size + 1 + 1 by simp] at hn3
  have hn4 := hn3.alloc #[I 0, I 0, I 0, I 0, I 0, I 0, I 0, .bool false, .bool false, I 0, I 0, I 0] 29
  rw [show (((w.alloc (.cells p.cells.toArray 23)).alloc (.cells (Ru.cells r).toArray 29)).alloc (.cells c.cells.toArray 31)).heap.size = w.heap.size + 1 + 1 + 1 by simp] at hn4
  clear hn0
  clear hn1
  clear hn2
  clear hn3
  go_enter Try.func12, Try.ntmps12
  go_upto_region 1 with fail
  generalize World.alloc (World.alloc (World.alloc (World.alloc w _) _) _) _ = v at hn4 ⊢
  generalize hg3 : w.heap.size + 1 + 1 + 1 = gz at hn4 ⊢
  generalize hg2 : w.heap.size + 1 + 1 = gc at hn4 ⊢
  generalize hg1 : w.heap.size + 1 = gr at hn4 ⊢
  generalize hg0 : w.heap.size = gp at hn4 ⊢
  clear hg0 hg1 hg2 hg3
  have H0 := Lib.hid hn4
  clear hn4
  have t_rco : v.cell? ⟨gr, 0, none⟩ = some (I r.co) := H0.out.cell 2 0 rfl rfl
  have t_cen : v.cell? ⟨gc, 1, none⟩ = some (.bool c.en) := H0.out.cell 1 1 rfl rfl
  have t_rdn : v.cell? ⟨gr, 7, none⟩ = some (.bool r.dn) := H0.out.cell 2 7 rfl rfl
  rw [hco] at t_rco
  rw [hen] at t_cen
  go_upto_region 5 with (first | (refine Row.wpList_load_g 27 _ rfl (by first | rfl | (go_simp; done) | fail) ⟨gr, 9, none⟩ rfl [I r.tl, I r.tu, I r.td] _ (seg H0.out 2 9 rfl _ rfl) Try.underlying27 rfl infoTn ?_) | (refine wpList_build rfl 29 [(0, .const (I 2)), (1, .const (I 1)), (8, .tmp 17)] rfl (Ru.cells ⟨2, 1, 0, 0, 0, 0, 0, false, false, r.tl, r.tu, r.td⟩).toArray _ (by rfl) (built3 2 1 r.tl r.tu r.td) ?_) | (refine Row.wpList_store_new rfl 29 _ _ rfl _ _ (Ru.cells ⟨2, 1, 0, 0, 0, 0, 0, false, false, r.tl, r.tu, r.td⟩).toArray rfl rfl rfl infoRu rfl (one_ru _) ?_))
  have hn := H0.out.alloc (Ru.cells ⟨2, 1, 0, 0, 0, 0, 0, false, false, r.tl, r.tu, r.td⟩).toArray 29
  generalize World.alloc v _ = v1 at hn ⊢
  generalize v.heap.size = gn at hn ⊢
  have H1 := Lib.hid hn
  clear hn
  clear H0 t_rco t_cen t_rdn
  have t_rdn : v1.cell? ⟨gr, 7, none⟩ = some (.bool r.dn) := H1.out.cell 3 7 rfl rfl
  rw [hdn] at t_rdn
  cases dn
  · rw [if_neg (by simp)] at ht
    injection ht with e1 e2 e3
    subst e1 e2 e3
    go_upto_region 7 with fail
    go_wp2_with (first | (refine Row.wpList_load_g 29 _ rfl (by first | rfl | (go_simp; done) | fail) ⟨gn, 0, none⟩ rfl (Ru.cells ⟨2, 1, 0, 0, 0, 0, 0, false, false, r.tl, r.tu, r.td⟩) _ (seg H1.out 0 0 rfl _ rfl) Try.underlying29 rfl infoRu ?_) | (refine wpList_store_row rfl 29 _ _ rfl gz (Ru.cells ⟨2, 1, 0, 0, 0, 0, 0, false, false, r.tl, r.tu, r.td⟩).toArray rfl rfl 29 _ (H1.out.at 1 rfl) infoRu rfl (one_ru _) ?_))
    have hput := H1.out.put 1 rfl (Ru.cells ⟨2, 1, 0, 0, 0, 0, 0, false, false, r.tl, r.tu, r.td⟩).toArray
    simp only [List.set_cons_succ, List.set_cons_zero] at hput
    generalize World.setRow v1 gz _ = vz at hput ⊢
    have HG := Lib.hid hput
    clear hput
    go_wp2_with fail
    (try simp only [Exit.inBlock, Exit.then])
    refine bodyPost_ret (v := .agg (Ru.cells ⟨2, 1, 0, 0, 0, 0, 0, false, false, r.tl, r.tu, r.td⟩).toArray) ?_ rfl ⟨ret_ru HE.out.symm, HG.out.bel⟩
    exact results_cell_row rfl _ _ gz 29 _ (0, 0) _ rfl (HG.out.at 1 rfl) Try.underlying29 rfl infoRu
  · rw [if_pos rfl] at ht
    have GR : Hid (∀ W, Calls Try.prog 20 #[.agg p.cells.toArray, .agg #[I r.tl, I r.tu, I r.td], .bool r.mx] W fun e w' => e = .returned (.agg #[I x, I y, I z]) ∧ Below W.heap.size W w') := Lib.hid (fun W => Gap.rgrow_is ht W)
    clear ht
    go_upto_region 6 with fail
    clear t_rdn
    have t_rmx : v1.cell? ⟨gr, 8, none⟩ = some (.bool r.mx) := H1.out.cell 3 8 rfl rfl
    go_wp2_with (first | (refine Row.wpList_load_g 23 _ rfl (by first | rfl | (go_simp; done) | fail) ⟨gp, 0, none⟩ rfl p.cells _ (seg H1.out 4 0 rfl _ rfl) Try.underlying23 rfl infoP ?_) | (refine Row.wpList_load_g 27 _ rfl (by first | rfl | (go_simp; done) | fail) ⟨gr, 9, none⟩ rfl [I r.tl, I r.tu, I r.td] _ (seg H1.out 3 9 rfl _ rfl) Try.underlying27 rfl infoTn ?_))
    refine (GR.out _).mono ?_
    rintro e v3 ⟨rfl, bc⟩
    have H3 := Lib.hid (H1.out.step bc)
    clear bc
    go_upto_region 7 with (refine store_mid rfl 27 _ _ rfl gn 9 #[I x, I y, I z] rfl rfl 29 _ (Ru.cells ⟨2, 1, 0, 0, 0, 0, 0, false, false, x, y, z⟩).toArray H3.out 0 rfl infoTn (by first | decide | (simp [Ru.cells]; done) | fail) (by simp [Value.oneCell']) rfl ?_)
    have hput := H3.out.put 0 rfl (Ru.cells ⟨2, 1, 0, 0, 0, 0, 0, false, false, x, y, z⟩).toArray
    simp only [List.set_cons_succ, List.set_cons_zero] at hput
    generalize World.setRow _ gn _ = v4 at hput ⊢
    have H4 := Lib.hid hput
    clear hput
    clear H1 H3 GR t_rmx
    go_wp2_with (first | (refine Row.wpList_load_g 29 _ rfl (by first | rfl | (go_simp; done) | fail) ⟨gn, 0, none⟩ rfl (Ru.cells ⟨2, 1, 0, 0, 0, 0, 0, false, false, x, y, z⟩) _ (seg H4.out 0 0 rfl _ rfl) Try.underlying29 rfl infoRu ?_) | (refine wpList_store_row rfl 29 _ _ rfl gz (Ru.cells ⟨2, 1, 0, 0, 0, 0, 0, false, false, x, y, z⟩).toArray rfl rfl 29 _ (H4.out.at 1 rfl) infoRu rfl (one_ru _) ?_))
    have hput := H4.out.put 1 rfl (Ru.cells ⟨2, 1, 0, 0, 0, 0, 0, false, false, x, y, z⟩).toArray
    simp only [List.set_cons_succ, List.set_cons_zero] at hput
    generalize World.setRow v4 gz _ = vz at hput ⊢
    have HG := Lib.hid hput
    clear hput
    go_wp2_with fail
    (try simp only [Exit.inBlock, Exit.then])
    refine bodyPost_ret (v := .agg (Ru.cells ⟨2, 1, 0, 0, 0, 0, 0, false, false, x, y, z⟩).toArray) ?_ rfl ⟨ret_ru HE.out.symm, HG.out.bel⟩
    exact results_cell_row rfl _ _ gz 29 _ (0, 0) _ rfl (HG.out.at 1 rfl) Try.underlying29 rfl infoRu
theorem rstep_stay (p : Ph) (r : Ru) (c : Cu) (hco : r.co = 1) (hen : c.en = false) (w : World) : Calls Try.prog 12 #[.agg p.cells.toArray, .agg r.cells.toArray, .agg c.cells.toArray] w fun e w' => e = .returned (.agg (Ru.cells (stp p r c)).toArray) ∧ Below w.heap.size w w' := by
  have HE : Hid (stp p r c = sty p c (lon p r c)) := Lib.hid (by unfold stp; rw [if_pos hco, hen, if_neg (by simp)])
  obtain ⟨D, hD⟩ : ∃ D, sty p c (lon p r c) = D := ⟨_, rfl⟩
  rw [hD] at HE
  obtain ⟨du, hdu⟩ : ∃ x, duB p c (lon p r c) = x := ⟨_, rfl⟩
  have GN : Hid (∀ W, Calls Try.prog 24 #[.agg p.cells.toArray, .agg r.cells.toArray, .agg c.cells.toArray] W fun e w' => e = .returned (.tuple #[.agg D.cells.toArray, .bool du]) ∧ Below W.heap.size W w') := Lib.hid (fun W => by rw [← hD, ← hdu]; exact green_any p r c W)
  clear hdu
  have hn0 := Blk.Bks.nil w
  have hn1 := hn0.alloc p.cells.toArray 23
  have hn2 := hn1.alloc (Ru.cells r).toArray 29
  rw [show (w.alloc (.cells p.cells.toArray 23)).heap.size = w.heap.size + 1 by simp] at hn2
  have hn3 := hn2.alloc c.cells.toArray 31
  rw [show ((w.alloc (.cells p.cells.toArray 23)).alloc (.cells (Ru.cells r).toArray 29)).heap.size = w.heap.size + 1 + 1 by simp] at hn3
  have hn4 := hn3.alloc #[I 0, I 0, I 0, I 0, I 0, I 0, I 0, .bool false, .bool false, I 0, I 0, I 0] 29
  rw [show (((w.alloc (.cells p.cells.toArray 23)).alloc (.cells (Ru.cells r).toArray 29)).alloc (.cells c.cells.toArray 31)).heap.size = w.heap.size + 1 + 1 + 1 by simp] at hn4
  clear hn0
  clear hn1
  clear hn2
  clear hn3
  go_enter Try.func12, Try.ntmps12
  go_upto_region 1 with fail
  generalize World.alloc (World.alloc (World.alloc (World.alloc w _) _) _) _ = v at hn4 ⊢
  generalize hg3 : w.heap.size + 1 + 1 + 1 = gz at hn4 ⊢
  generalize hg2 : w.heap.size + 1 + 1 = gc at hn4 ⊢
  generalize hg1 : w.heap.size + 1 = gr at hn4 ⊢
  generalize hg0 : w.heap.size = gp at hn4 ⊢
  clear hg0 hg1 hg2 hg3
  have H0 := Lib.hid hn4
  clear hn4
  have t_rco : v.cell? ⟨gr, 0, none⟩ = some (I r.co) := H0.out.cell 2 0 rfl rfl
  have t_cen : v.cell? ⟨gc, 1, none⟩ = some (.bool c.en) := H0.out.cell 1 1 rfl rfl
  rw [hco] at t_rco
  rw [hen] at t_cen
  go_wp2_with (first | (refine Row.wpList_load_g 23 _ rfl (by first | rfl | (go_simp; done) | fail) ⟨gp, 0, none⟩ rfl p.cells _ (seg H0.out 3 0 rfl _ rfl) Try.underlying23 rfl infoP ?_) | (refine Row.wpList_load_g 29 _ rfl (by first | rfl | (go_simp; done) | fail) ⟨gr, 0, none⟩ rfl r.cells _ (seg H0.out 2 0 rfl _ rfl) Try.underlying29 rfl infoRu ?_) | (refine Row.wpList_load_g 31 _ rfl (by first | rfl | (go_simp; done) | fail) ⟨gc, 0, none⟩ rfl c.cells _ (seg H0.out 1 0 rfl _ rfl) Try.underlying31 rfl infoCu ?_))
  refine (GN.out _).mono ?_
  rintro e v1 ⟨rfl, bc⟩
  have H1 := Lib.hid (H0.out.step bc)
  clear bc
  clear t_rco t_cen
  go_upto_region 9 with (refine Row.wpList_store_new rfl 29 _ _ rfl _ _ D.cells.toArray rfl rfl rfl infoRu rfl (one_ru _) ?_)
  have hn := H1.out.alloc D.cells.toArray 29
  generalize World.alloc v1 _ = v2 at hn ⊢
  generalize v1.heap.size = gn at hn ⊢
  have H2 := Lib.hid hn
  clear hn
  clear H0 H1 GN
  go_wp2_with (first | (refine Row.wpList_load_g 29 _ rfl (by first | rfl | (go_simp; done) | fail) ⟨gn, 0, none⟩ rfl D.cells _ (seg H2.out 0 0 rfl _ rfl) Try.underlying29 rfl infoRu ?_) | (refine wpList_store_row rfl 29 _ _ rfl gz D.cells.toArray rfl rfl 29 _ (H2.out.at 1 rfl) infoRu rfl (one_ru _) ?_))
  have hput := H2.out.put 1 rfl D.cells.toArray
  simp only [List.set_cons_succ, List.set_cons_zero] at hput
  generalize World.setRow v2 gz _ = vz at hput ⊢
  have HG := Lib.hid hput
  clear hput
  go_wp2_with fail
  (try simp only [Exit.inBlock, Exit.then])
  refine bodyPost_ret (v := .agg D.cells.toArray) ?_ rfl ⟨ret_ru HE.out.symm, HG.out.bel⟩
  exact results_cell_row rfl _ _ gz 29 _ (0, 0) _ rfl (HG.out.at 1 rfl) Try.underlying29 rfl infoRu
theorem moreB (n : Int) (w : World) : Calls Try.prog 25 #[.int .i64 n] w fun e w' => e = .returned (.int .i64 (Cnt.more n)) ∧ Below w.heap.size w w' := (Cnt.rmore_any n w).mono fun e w' h => ⟨h.1, h.2 ▸ Below.refl _ _⟩
theorem rstep_yellow (p : Ph) (r : Ru) (c : Cu) (hco : r.co = 2) (w : World) : Calls Try.prog 12 #[.agg p.cells.toArray, .agg r.cells.toArray, .agg c.cells.toArray] w fun e w' => e = .returned (.agg (Ru.cells (stp p r c)).toArray) ∧ Below w.heap.size w w' := by
  obtain ⟨tm, htm⟩ : ∃ x, r.tm = x := ⟨_, rfl⟩
  obtain ⟨ye, hye⟩ : ∃ x, p.yellow = x := ⟨_, rfl⟩
  obtain ⟨re, hre⟩ : ∃ x, p.red = x := ⟨_, rfl⟩
  by_cases h1 : tm < ye
  · obtain ⟨n1, hn1⟩ : ∃ x, Cnt.more r.tm = x := ⟨_, rfl⟩
    have OM : Hid (∀ W, Calls Try.prog 25 #[.int .i64 r.tm] W fun e w' => e = .returned (.int .i64 n1) ∧ Below W.heap.size W w') := Lib.hid (fun W => by rw [← hn1]; exact moreB _ W)
    have HE : Hid (stp p r c = ⟨2, n1, 0, 0, 0, 0, 0, false, false, r.tl, r.tu, r.td⟩) := Lib.hid (by unfold stp yel; rw [if_neg (by rw [hco]; decide), if_pos hco, htm, hye, if_pos h1]; unfold lst; rw [hn1])
    clear hn1
    rw [htm] at OM
    have hn0 := Blk.Bks.nil w
    have hn1 := hn0.alloc p.cells.toArray 23
    have hn2 := hn1.alloc (Ru.cells r).toArray 29
    rw [show (w.alloc (.cells p.cells.toArray 23)).heap.size = w.heap.size + 1 by simp] at hn2
    have hn3 := hn2.alloc c.cells.toArray 31
    rw [show ((w.alloc (.cells p.cells.toArray 23)).alloc (.cells (Ru.cells r).toArray 29)).heap.size = w.heap.size + 1 + 1 by simp] at hn3
    have hn4 := hn3.alloc #[I 0, I 0, I 0, I 0, I 0, I 0, I 0, .bool false, .bool false, I 0, I 0, I 0] 29
    rw [show (((w.alloc (.cells p.cells.toArray 23)).alloc (.cells (Ru.cells r).toArray 29)).alloc (.cells c.cells.toArray 31)).heap.size = w.heap.size + 1 + 1 + 1 by simp] at hn4
    clear hn0
    clear hn1
    clear hn2
    clear hn3
    go_enter Try.func12, Try.ntmps12
    go_upto_region 1 with fail
    generalize World.alloc (World.alloc (World.alloc (World.alloc w _) _) _) _ = v at hn4 ⊢
    generalize hg3 : w.heap.size + 1 + 1 + 1 = gz at hn4 ⊢
    generalize hg2 : w.heap.size + 1 + 1 = gc at hn4 ⊢
    generalize hg1 : w.heap.size + 1 = gr at hn4 ⊢
    generalize hg0 : w.heap.size = gp at hn4 ⊢
    clear hg0 hg1 hg2 hg3
    have H0 := Lib.hid hn4
    clear hn4
    have t_rco : v.cell? ⟨gr, 0, none⟩ = some (I r.co) := H0.out.cell 2 0 rfl rfl
    have t_rtm : v.cell? ⟨gr, 1, none⟩ = some (I r.tm) := H0.out.cell 2 1 rfl rfl
    have t_pyellow : v.cell? ⟨gp, 6, none⟩ = some (I p.yellow) := H0.out.cell 3 6 rfl rfl
    have t_pred : v.cell? ⟨gp, 7, none⟩ = some (I p.red) := H0.out.cell 3 7 rfl rfl
    rw [hco] at t_rco
    rw [htm] at t_rtm
    rw [hye] at t_pyellow
    rw [hre] at t_pred
    go_upto_region 12 with fail
    (try dsimp only [Act.put])
    have q1 : ∀ q : QB.By v.heap.size v, q.world.cell? ⟨gr, 1, none⟩ = some (I r.tm) := fun q => (H0.out.by q).cell 2 1 rfl rfl
    refine QT.region v.heap.size 5 (by kernel_rfl) (by kernel_rfl) ?_
    simp only [List.take_succ_cons, List.take_zero]
    repeat first
      | (refine wpQuiet_load rfl 27 _ rfl ⟨gr, 9, none⟩ rfl [I r.tl, I r.tu, I r.td] _ (fun w' ⟨pw, e⟩ => by rw [e]; exact seg (H0.out.by pw) 2 9 rfl _ rfl) Try.underlying27 rfl infoTn ?_
         dsimp only [Act.put]
         simp only [List.setIfInBounds_toArray, List.set_cons_zero, List.set_cons_succ])
      | (quiet_step (first | (go_at_call 25; with_reducible exact QB.call_of (Nat.le_refl _) (fun b => OM.out _))))
    refine wpQuiet_nil ?_
    intro _ hw'
    obtain ⟨pq, rfl⟩ := hw'
    have HP := Lib.hid (H0.out.by pq)
    generalize pq.world = vp at HP ⊢
    simp only [List.drop_succ_cons, List.drop_zero]
    clear q1
    go_wp2_with (first | (refine wpList_build rfl 29 [(0, .const (I 2)), (1, .tmp 46), (8, .tmp 48)] rfl (Ru.cells ⟨2, n1, 0, 0, 0, 0, 0, false, false, r.tl, r.tu, r.td⟩).toArray _ (by rfl) (built3 2 n1 r.tl r.tu r.td) ?_) | (refine wpList_store_row rfl 29 _ _ rfl gz (Ru.cells ⟨2, n1, 0, 0, 0, 0, 0, false, false, r.tl, r.tu, r.td⟩).toArray rfl rfl 29 _ (HP.out.at 0 rfl) infoRu rfl (one_ru _) ?_))
    have hput := HP.out.put 0 rfl (Ru.cells ⟨2, n1, 0, 0, 0, 0, 0, false, false, r.tl, r.tu, r.td⟩).toArray
    simp only [List.set_cons_succ, List.set_cons_zero] at hput
    generalize World.setRow vp gz _ = vz at hput ⊢
    have HG := Lib.hid hput
    clear hput
    go_wp2_with fail
    (try simp only [Exit.inBlock, Exit.then])
    refine bodyPost_ret (v := .agg (Ru.cells ⟨2, n1, 0, 0, 0, 0, 0, false, false, r.tl, r.tu, r.td⟩).toArray) ?_ rfl ⟨ret_ru HE.out.symm, HG.out.bel⟩
    exact results_cell_row rfl _ _ gz 29 _ (0, 0) _ rfl (HG.out.at 0 rfl) Try.underlying29 rfl infoRu
  by_cases h2 : 0 < re
  · have HE : Hid (stp p r c = ⟨3, 1, 0, 0, 0, 0, 0, false, false, r.tl, r.tu, r.td⟩) := Lib.hid (by unfold stp yel; rw [if_neg (by rw [hco]; decide), if_pos hco, htm, hye, hre, if_neg h1, if_pos h2]; rfl)
    have hn0 := Blk.Bks.nil w
    have hn1 := hn0.alloc p.cells.toArray 23
    have hn2 := hn1.alloc (Ru.cells r).toArray 29
    rw [show (w.alloc (.cells p.cells.toArray 23)).heap.size = w.heap.size + 1 by simp] at hn2
    have hn3 := hn2.alloc c.cells.toArray 31
    rw [show ((w.alloc (.cells p.cells.toArray 23)).alloc (.cells (Ru.cells r).toArray 29)).heap.size = w.heap.size + 1 + 1 by simp] at hn3
    have hn4 := hn3.alloc #[I 0, I 0, I 0, I 0, I 0, I 0, I 0, .bool false, .bool false, I 0, I 0, I 0] 29
    rw [show (((w.alloc (.cells p.cells.toArray 23)).alloc (.cells (Ru.cells r).toArray 29)).alloc (.cells c.cells.toArray 31)).heap.size = w.heap.size + 1 + 1 + 1 by simp] at hn4
    clear hn0
    clear hn1
    clear hn2
    clear hn3
    go_enter Try.func12, Try.ntmps12
    go_upto_region 1 with fail
    generalize World.alloc (World.alloc (World.alloc (World.alloc w _) _) _) _ = v at hn4 ⊢
    generalize hg3 : w.heap.size + 1 + 1 + 1 = gz at hn4 ⊢
    generalize hg2 : w.heap.size + 1 + 1 = gc at hn4 ⊢
    generalize hg1 : w.heap.size + 1 = gr at hn4 ⊢
    generalize hg0 : w.heap.size = gp at hn4 ⊢
    clear hg0 hg1 hg2 hg3
    have H0 := Lib.hid hn4
    clear hn4
    have t_rco : v.cell? ⟨gr, 0, none⟩ = some (I r.co) := H0.out.cell 2 0 rfl rfl
    have t_rtm : v.cell? ⟨gr, 1, none⟩ = some (I r.tm) := H0.out.cell 2 1 rfl rfl
    have t_pyellow : v.cell? ⟨gp, 6, none⟩ = some (I p.yellow) := H0.out.cell 3 6 rfl rfl
    have t_pred : v.cell? ⟨gp, 7, none⟩ = some (I p.red) := H0.out.cell 3 7 rfl rfl
    rw [hco] at t_rco
    rw [htm] at t_rtm
    rw [hye] at t_pyellow
    rw [hre] at t_pred
    go_wp2_with (first | (refine Row.wpList_load_g 27 _ rfl (by first | rfl | (go_simp; done) | fail) ⟨gr, 9, none⟩ rfl [I r.tl, I r.tu, I r.td] _ (seg H0.out 2 9 rfl _ rfl) Try.underlying27 rfl infoTn ?_) | (refine wpList_build rfl 29 [(0, .const (I 3)), (1, .const (I 1)), (8, .tmp 54)] rfl (Ru.cells ⟨3, 1, 0, 0, 0, 0, 0, false, false, r.tl, r.tu, r.td⟩).toArray _ (by rfl) (built3 3 1 r.tl r.tu r.td) ?_) | (refine wpList_store_row rfl 29 _ _ rfl gz (Ru.cells ⟨3, 1, 0, 0, 0, 0, 0, false, false, r.tl, r.tu, r.td⟩).toArray rfl rfl 29 _ (H0.out.at 0 rfl) infoRu rfl (one_ru _) ?_))
    have hput := H0.out.put 0 rfl (Ru.cells ⟨3, 1, 0, 0, 0, 0, 0, false, false, r.tl, r.tu, r.td⟩).toArray
    simp only [List.set_cons_succ, List.set_cons_zero] at hput
    generalize World.setRow v gz _ = vz at hput ⊢
    have HG := Lib.hid hput
    clear hput
    go_wp2_with fail
    (try simp only [Exit.inBlock, Exit.then])
    refine bodyPost_ret (v := .agg (Ru.cells ⟨3, 1, 0, 0, 0, 0, 0, false, false, r.tl, r.tu, r.td⟩).toArray) ?_ rfl ⟨ret_ru HE.out.symm, HG.out.bel⟩
    exact results_cell_row rfl _ _ gz 29 _ (0, 0) _ rfl (HG.out.at 0 rfl) Try.underlying29 rfl infoRu
  · have HE : Hid (stp p r c = ⟨0, 1, 0, 0, 0, 0, 0, false, false, r.tl, r.tu, r.td⟩) := Lib.hid (by unfold stp yel; rw [if_neg (by rw [hco]; decide), if_pos hco, htm, hye, hre, if_neg h1, if_neg h2]; rfl)
    have hn0 := Blk.Bks.nil w
    have hn1 := hn0.alloc p.cells.toArray 23
    have hn2 := hn1.alloc (Ru.cells r).toArray 29
    rw [show (w.alloc (.cells p.cells.toArray 23)).heap.size = w.heap.size + 1 by simp] at hn2
    have hn3 := hn2.alloc c.cells.toArray 31
    rw [show ((w.alloc (.cells p.cells.toArray 23)).alloc (.cells (Ru.cells r).toArray 29)).heap.size = w.heap.size + 1 + 1 by simp] at hn3
    have hn4 := hn3.alloc #[I 0, I 0, I 0, I 0, I 0, I 0, I 0, .bool false, .bool false, I 0, I 0, I 0] 29
    rw [show (((w.alloc (.cells p.cells.toArray 23)).alloc (.cells (Ru.cells r).toArray 29)).alloc (.cells c.cells.toArray 31)).heap.size = w.heap.size + 1 + 1 + 1 by simp] at hn4
    clear hn0
    clear hn1
    clear hn2
    clear hn3
    go_enter Try.func12, Try.ntmps12
    go_upto_region 1 with fail
    generalize World.alloc (World.alloc (World.alloc (World.alloc w _) _) _) _ = v at hn4 ⊢
    generalize hg3 : w.heap.size + 1 + 1 + 1 = gz at hn4 ⊢
    generalize hg2 : w.heap.size + 1 + 1 = gc at hn4 ⊢
    generalize hg1 : w.heap.size + 1 = gr at hn4 ⊢
    generalize hg0 : w.heap.size = gp at hn4 ⊢
    clear hg0 hg1 hg2 hg3
    have H0 := Lib.hid hn4
    clear hn4
    have t_rco : v.cell? ⟨gr, 0, none⟩ = some (I r.co) := H0.out.cell 2 0 rfl rfl
    have t_rtm : v.cell? ⟨gr, 1, none⟩ = some (I r.tm) := H0.out.cell 2 1 rfl rfl
    have t_pyellow : v.cell? ⟨gp, 6, none⟩ = some (I p.yellow) := H0.out.cell 3 6 rfl rfl
    have t_pred : v.cell? ⟨gp, 7, none⟩ = some (I p.red) := H0.out.cell 3 7 rfl rfl
    rw [hco] at t_rco
    rw [htm] at t_rtm
    rw [hye] at t_pyellow
    rw [hre] at t_pred
    go_wp2_with (first | (refine Row.wpList_load_g 27 _ rfl (by first | rfl | (go_simp; done) | fail) ⟨gr, 9, none⟩ rfl [I r.tl, I r.tu, I r.td] _ (seg H0.out 2 9 rfl _ rfl) Try.underlying27 rfl infoTn ?_) | (refine wpList_build rfl 29 [(0, .const (I 0)), (1, .const (I 1)), (8, .tmp 57)] rfl (Ru.cells ⟨0, 1, 0, 0, 0, 0, 0, false, false, r.tl, r.tu, r.td⟩).toArray _ (by rfl) (built3 0 1 r.tl r.tu r.td) ?_) | (refine wpList_store_row rfl 29 _ _ rfl gz (Ru.cells ⟨0, 1, 0, 0, 0, 0, 0, false, false, r.tl, r.tu, r.td⟩).toArray rfl rfl 29 _ (H0.out.at 0 rfl) infoRu rfl (one_ru _) ?_))
    have hput := H0.out.put 0 rfl (Ru.cells ⟨0, 1, 0, 0, 0, 0, 0, false, false, r.tl, r.tu, r.td⟩).toArray
    simp only [List.set_cons_succ, List.set_cons_zero] at hput
    generalize World.setRow v gz _ = vz at hput ⊢
    have HG := Lib.hid hput
    clear hput
    go_wp2_with fail
    (try simp only [Exit.inBlock, Exit.then])
    refine bodyPost_ret (v := .agg (Ru.cells ⟨0, 1, 0, 0, 0, 0, 0, false, false, r.tl, r.tu, r.td⟩).toArray) ?_ rfl ⟨ret_ru HE.out.symm, HG.out.bel⟩
    exact results_cell_row rfl _ _ gz 29 _ (0, 0) _ rfl (HG.out.at 0 rfl) Try.underlying29 rfl infoRu
theorem rstep_clear (p : Ph) (r : Ru) (c : Cu) (hco : r.co = 3) (w : World) : Calls Try.prog 12 #[.agg p.cells.toArray, .agg r.cells.toArray, .agg c.cells.toArray] w fun e w' => e = .returned (.agg (Ru.cells (stp p r c)).toArray) ∧ Below w.heap.size w w' := by
  obtain ⟨tm, htm⟩ : ∃ x, r.tm = x := ⟨_, rfl⟩
  obtain ⟨ye, hye⟩ : ∃ x, p.yellow = x := ⟨_, rfl⟩
  obtain ⟨re, hre⟩ : ∃ x, p.red = x := ⟨_, rfl⟩
  by_cases h1 : tm < re
  · obtain ⟨n1, hn1⟩ : ∃ x, Cnt.more r.tm = x := ⟨_, rfl⟩
    have OM : Hid (∀ W, Calls Try.prog 25 #[.int .i64 r.tm] W fun e w' => e = .returned (.int .i64 n1) ∧ Below W.heap.size W w') := Lib.hid (fun W => by rw [← hn1]; exact moreB _ W)
    have HE : Hid (stp p r c = ⟨3, n1, 0, 0, 0, 0, 0, false, false, r.tl, r.tu, r.td⟩) := Lib.hid (by unfold stp cle; rw [if_neg (by rw [hco]; decide), if_neg (by rw [hco]; decide), if_pos hco, htm, hre, if_pos h1]; unfold lst; rw [hn1])
    clear hn1
    rw [htm] at OM
    have hn0 := Blk.Bks.nil w
    have hn1 := hn0.alloc p.cells.toArray 23
    have hn2 := hn1.alloc (Ru.cells r).toArray 29
    rw [show (w.alloc (.cells p.cells.toArray 23)).heap.size = w.heap.size + 1 by simp] at hn2
    have hn3 := hn2.alloc c.cells.toArray 31
    rw [show ((w.alloc (.cells p.cells.toArray 23)).alloc (.cells (Ru.cells r).toArray 29)).heap.size = w.heap.size + 1 + 1 by simp] at hn3
    have hn4 := hn3.alloc #[I 0, I 0, I 0, I 0, I 0, I 0, I 0, .bool false, .bool false, I 0, I 0, I 0] 29
    rw [show (((w.alloc (.cells p.cells.toArray 23)).alloc (.cells (Ru.cells r).toArray 29)).alloc (.cells c.cells.toArray 31)).heap.size = w.heap.size + 1 + 1 + 1 by simp] at hn4
    clear hn0
    clear hn1
    clear hn2
    clear hn3
    go_enter Try.func12, Try.ntmps12
    go_upto_region 1 with fail
    generalize World.alloc (World.alloc (World.alloc (World.alloc w _) _) _) _ = v at hn4 ⊢
    generalize hg3 : w.heap.size + 1 + 1 + 1 = gz at hn4 ⊢
    generalize hg2 : w.heap.size + 1 + 1 = gc at hn4 ⊢
    generalize hg1 : w.heap.size + 1 = gr at hn4 ⊢
    generalize hg0 : w.heap.size = gp at hn4 ⊢
    clear hg0 hg1 hg2 hg3
    have H0 := Lib.hid hn4
    clear hn4
    have t_rco : v.cell? ⟨gr, 0, none⟩ = some (I r.co) := H0.out.cell 2 0 rfl rfl
    have t_rtm : v.cell? ⟨gr, 1, none⟩ = some (I r.tm) := H0.out.cell 2 1 rfl rfl
    have t_pred : v.cell? ⟨gp, 7, none⟩ = some (I p.red) := H0.out.cell 3 7 rfl rfl
    rw [hco] at t_rco
    rw [htm] at t_rtm
    rw [hre] at t_pred
    go_upto_region 18 with fail
    (try dsimp only [Act.put])
    have q1 : ∀ q : QB.By v.heap.size v, q.world.cell? ⟨gr, 1, none⟩ = some (I r.tm) := fun q => (H0.out.by q).cell 2 1 rfl rfl
    refine QT.region v.heap.size 5 (by kernel_rfl) (by kernel_rfl) ?_
    simp only [List.take_succ_cons, List.take_zero]
    repeat first
      | (refine wpQuiet_load rfl 27 _ rfl ⟨gr, 9, none⟩ rfl [I r.tl, I r.tu, I r.td] _ (fun w' ⟨pw, e⟩ => by rw [e]; exact seg (H0.out.by pw) 2 9 rfl _ rfl) Try.underlying27 rfl infoTn ?_
         dsimp only [Act.put]
         simp only [List.setIfInBounds_toArray, List.set_cons_zero, List.set_cons_succ])
      | (quiet_step (first | (go_at_call 25; with_reducible exact QB.call_of (Nat.le_refl _) (fun b => OM.out _))))
    refine wpQuiet_nil ?_
    intro _ hw'
    obtain ⟨pq, rfl⟩ := hw'
    have HP := Lib.hid (H0.out.by pq)
    generalize pq.world = vp at HP ⊢
    simp only [List.drop_succ_cons, List.drop_zero]
    clear q1
    go_wp2_with (first | (refine wpList_build rfl 29 [(0, .const (I 3)), (1, .tmp 68), (8, .tmp 70)] rfl (Ru.cells ⟨3, n1, 0, 0, 0, 0, 0, false, false, r.tl, r.tu, r.td⟩).toArray _ (by rfl) (built3 3 n1 r.tl r.tu r.td) ?_) | (refine wpList_store_row rfl 29 _ _ rfl gz (Ru.cells ⟨3, n1, 0, 0, 0, 0, 0, false, false, r.tl, r.tu, r.td⟩).toArray rfl rfl 29 _ (HP.out.at 0 rfl) infoRu rfl (one_ru _) ?_))
    have hput := HP.out.put 0 rfl (Ru.cells ⟨3, n1, 0, 0, 0, 0, 0, false, false, r.tl, r.tu, r.td⟩).toArray
    simp only [List.set_cons_succ, List.set_cons_zero] at hput
    generalize World.setRow vp gz _ = vz at hput ⊢
    have HG := Lib.hid hput
    clear hput
    go_wp2_with fail
    (try simp only [Exit.inBlock, Exit.then])
    refine bodyPost_ret (v := .agg (Ru.cells ⟨3, n1, 0, 0, 0, 0, 0, false, false, r.tl, r.tu, r.td⟩).toArray) ?_ rfl ⟨ret_ru HE.out.symm, HG.out.bel⟩
    exact results_cell_row rfl _ _ gz 29 _ (0, 0) _ rfl (HG.out.at 0 rfl) Try.underlying29 rfl infoRu
  · have HE : Hid (stp p r c = ⟨0, 1, 0, 0, 0, 0, 0, false, false, r.tl, r.tu, r.td⟩) := Lib.hid (by unfold stp cle; rw [if_neg (by rw [hco]; decide), if_neg (by rw [hco]; decide), if_pos hco, htm, hre, if_neg h1]; rfl)
    have hn0 := Blk.Bks.nil w
    have hn1 := hn0.alloc p.cells.toArray 23
    have hn2 := hn1.alloc (Ru.cells r).toArray 29
    rw [show (w.alloc (.cells p.cells.toArray 23)).heap.size = w.heap.size + 1 by simp] at hn2
    have hn3 := hn2.alloc c.cells.toArray 31
    rw [show ((w.alloc (.cells p.cells.toArray 23)).alloc (.cells (Ru.cells r).toArray 29)).heap.size = w.heap.size + 1 + 1 by simp] at hn3
    have hn4 := hn3.alloc #[I 0, I 0, I 0, I 0, I 0, I 0, I 0, .bool false, .bool false, I 0, I 0, I 0] 29
    rw [show (((w.alloc (.cells p.cells.toArray 23)).alloc (.cells (Ru.cells r).toArray 29)).alloc (.cells c.cells.toArray 31)).heap.size = w.heap.size + 1 + 1 + 1 by simp] at hn4
    clear hn0
    clear hn1
    clear hn2
    clear hn3
    go_enter Try.func12, Try.ntmps12
    go_upto_region 1 with fail
    generalize World.alloc (World.alloc (World.alloc (World.alloc w _) _) _) _ = v at hn4 ⊢
    generalize hg3 : w.heap.size + 1 + 1 + 1 = gz at hn4 ⊢
    generalize hg2 : w.heap.size + 1 + 1 = gc at hn4 ⊢
    generalize hg1 : w.heap.size + 1 = gr at hn4 ⊢
    generalize hg0 : w.heap.size = gp at hn4 ⊢
    clear hg0 hg1 hg2 hg3
    have H0 := Lib.hid hn4
    clear hn4
    have t_rco : v.cell? ⟨gr, 0, none⟩ = some (I r.co) := H0.out.cell 2 0 rfl rfl
    have t_rtm : v.cell? ⟨gr, 1, none⟩ = some (I r.tm) := H0.out.cell 2 1 rfl rfl
    have t_pred : v.cell? ⟨gp, 7, none⟩ = some (I p.red) := H0.out.cell 3 7 rfl rfl
    rw [hco] at t_rco
    rw [htm] at t_rtm
    rw [hre] at t_pred
    go_wp2_with (first | (refine Row.wpList_load_g 27 _ rfl (by first | rfl | (go_simp; done) | fail) ⟨gr, 9, none⟩ rfl [I r.tl, I r.tu, I r.td] _ (seg H0.out 2 9 rfl _ rfl) Try.underlying27 rfl infoTn ?_) | (refine wpList_build rfl 29 [(0, .const (I 0)), (1, .const (I 1)), (8, .tmp 73)] rfl (Ru.cells ⟨0, 1, 0, 0, 0, 0, 0, false, false, r.tl, r.tu, r.td⟩).toArray _ (by rfl) (built3 0 1 r.tl r.tu r.td) ?_) | (refine wpList_store_row rfl 29 _ _ rfl gz (Ru.cells ⟨0, 1, 0, 0, 0, 0, 0, false, false, r.tl, r.tu, r.td⟩).toArray rfl rfl 29 _ (H0.out.at 0 rfl) infoRu rfl (one_ru _) ?_))
    have hput := H0.out.put 0 rfl (Ru.cells ⟨0, 1, 0, 0, 0, 0, 0, false, false, r.tl, r.tu, r.td⟩).toArray
    simp only [List.set_cons_succ, List.set_cons_zero] at hput
    generalize World.setRow v gz _ = vz at hput ⊢
    have HG := Lib.hid hput
    clear hput
    go_wp2_with fail
    (try simp only [Exit.inBlock, Exit.then])
    refine bodyPost_ret (v := .agg (Ru.cells ⟨0, 1, 0, 0, 0, 0, 0, false, false, r.tl, r.tu, r.td⟩).toArray) ?_ rfl ⟨ret_ru HE.out.symm, HG.out.bel⟩
    exact results_cell_row rfl _ _ gz 29 _ (0, 0) _ rfl (HG.out.at 0 rfl) Try.underlying29 rfl infoRu
theorem rstep_red (p : Ph) (r : Ru) (c : Cu) (k : Int) (hco : r.co = k) (h1 : ¬ k = 1) (h2 : ¬ k = 2) (h3 : ¬ k = 3) (w : World) : Calls Try.prog 12 #[.agg p.cells.toArray, .agg r.cells.toArray, .agg c.cells.toArray] w fun e w' => e = .returned (.agg (Ru.cells (stp p r c)).toArray) ∧ Below w.heap.size w w' := by
  obtain ⟨st, hst⟩ : ∃ x, c.st = x := ⟨_, rfl⟩
  cases st
  · obtain ⟨n1, hn1⟩ : ∃ x, Cnt.more r.tm = x := ⟨_, rfl⟩
    have OM : Hid (∀ W, Calls Try.prog 25 #[.int .i64 r.tm] W fun e w' => e = .returned (.int .i64 n1) ∧ Below W.heap.size W w') := Lib.hid (fun W => by rw [← hn1]; exact moreB _ W)
    have HE : Hid (stp p r c = ⟨0, n1, 0, 0, 0, 0, 0, false, false, r.tl, r.tu, r.td⟩) := Lib.hid (by unfold stp rdR; rw [if_neg (by rw [hco]; exact h1), if_neg (by rw [hco]; exact h2), if_neg (by rw [hco]; exact h3), hst, if_neg (by simp)]; unfold lst; rw [hn1])
    clear hn1
    have hn0 := Blk.Bks.nil w
    have hn1 := hn0.alloc p.cells.toArray 23
    have hn2 := hn1.alloc (Ru.cells r).toArray 29
    rw [show (w.alloc (.cells p.cells.toArray 23)).heap.size = w.heap.size + 1 by simp] at hn2
    have hn3 := hn2.alloc c.cells.toArray 31
    rw [show ((w.alloc (.cells p.cells.toArray 23)).alloc (.cells (Ru.cells r).toArray 29)).heap.size = w.heap.size + 1 + 1 by simp] at hn3
    have hn4 := hn3.alloc #[I 0, I 0, I 0, I 0, I 0, I 0, I 0, .bool false, .bool false, I 0, I 0, I 0] 29
    rw [show (((w.alloc (.cells p.cells.toArray 23)).alloc (.cells (Ru.cells r).toArray 29)).alloc (.cells c.cells.toArray 31)).heap.size = w.heap.size + 1 + 1 + 1 by simp] at hn4
    clear hn0
    clear hn1
    clear hn2
    clear hn3
    go_enter Try.func12, Try.ntmps12
    go_upto_region 1 with fail
    generalize World.alloc (World.alloc (World.alloc (World.alloc w _) _) _) _ = v at hn4 ⊢
    generalize hg3 : w.heap.size + 1 + 1 + 1 = gz at hn4 ⊢
    generalize hg2 : w.heap.size + 1 + 1 = gc at hn4 ⊢
    generalize hg1 : w.heap.size + 1 = gr at hn4 ⊢
    generalize hg0 : w.heap.size = gp at hn4 ⊢
    clear hg0 hg1 hg2 hg3
    have H0 := Lib.hid hn4
    clear hn4
    have t_rco : v.cell? ⟨gr, 0, none⟩ = some (I r.co) := H0.out.cell 2 0 rfl rfl
    have t_cst : v.cell? ⟨gc, 0, none⟩ = some (.bool c.st) := H0.out.cell 1 0 rfl rfl
    rw [hco] at t_rco
    rw [hst] at t_cst
    have z1 : (k == 1) = false := by rw [beq_eq_false_iff_ne]; exact h1
    have z2 : (k == 2) = false := by rw [beq_eq_false_iff_ne]; exact h2
    have z3 : (k == 3) = false := by rw [beq_eq_false_iff_ne]; exact h3
    go_upto_region 22 with fail
    (try dsimp only [Act.put])
    have q1 : ∀ q : QB.By v.heap.size v, q.world.cell? ⟨gr, 1, none⟩ = some (I r.tm) := fun q => (H0.out.by q).cell 2 1 rfl rfl
    refine QT.region v.heap.size 5 (by kernel_rfl) (by kernel_rfl) ?_
    simp only [List.take_succ_cons, List.take_zero]
    repeat first
      | (refine wpQuiet_load rfl 27 _ rfl ⟨gr, 9, none⟩ rfl [I r.tl, I r.tu, I r.td] _ (fun w' ⟨pw, e⟩ => by rw [e]; exact seg (H0.out.by pw) 2 9 rfl _ rfl) Try.underlying27 rfl infoTn ?_
         dsimp only [Act.put]
         simp only [List.setIfInBounds_toArray, List.set_cons_zero, List.set_cons_succ])
      | (quiet_step (first | (go_at_call 25; with_reducible exact QB.call_of (Nat.le_refl _) (fun b => OM.out _))))
    refine wpQuiet_nil ?_
    intro _ hw'
    obtain ⟨pq, rfl⟩ := hw'
    have HP := Lib.hid (H0.out.by pq)
    generalize pq.world = vp at HP ⊢
    simp only [List.drop_succ_cons, List.drop_zero]
    clear q1
    go_wp2_with (first | (refine wpList_build rfl 29 [(0, .const (I 0)), (1, .tmp 89), (8, .tmp 91)] rfl (Ru.cells ⟨0, n1, 0, 0, 0, 0, 0, false, false, r.tl, r.tu, r.td⟩).toArray _ (by rfl) (built3 0 n1 r.tl r.tu r.td) ?_) | (refine wpList_store_row rfl 29 _ _ rfl gz (Ru.cells ⟨0, n1, 0, 0, 0, 0, 0, false, false, r.tl, r.tu, r.td⟩).toArray rfl rfl 29 _ (HP.out.at 0 rfl) infoRu rfl (one_ru _) ?_))
    have hput := HP.out.put 0 rfl (Ru.cells ⟨0, n1, 0, 0, 0, 0, 0, false, false, r.tl, r.tu, r.td⟩).toArray
    simp only [List.set_cons_succ, List.set_cons_zero] at hput
    generalize World.setRow vp gz _ = vz at hput ⊢
    have HG := Lib.hid hput
    clear hput
    go_wp2_with fail
    (try simp only [Exit.inBlock, Exit.then])
    refine bodyPost_ret (v := .agg (Ru.cells ⟨0, n1, 0, 0, 0, 0, 0, false, false, r.tl, r.tu, r.td⟩).toArray) ?_ rfl ⟨ret_ru HE.out.symm, HG.out.bel⟩
    exact results_cell_row rfl _ _ gz 29 _ (0, 0) _ rfl (HG.out.at 0 rfl) Try.underlying29 rfl infoRu
  · obtain ⟨⟨a, b⟩, hf⟩ : ∃ x, ft p.walk p.blinks 0 0 c.pu = x := ⟨_, rfl⟩
    have HE : Hid (stp p r c = ⟨1, 1, a, b, p.gap, 0, 0, false, false, r.tl, r.tu, r.td⟩) := Lib.hid (by unfold stp rdR; rw [if_neg (by rw [hco]; exact h1), if_neg (by rw [hco]; exact h2), if_neg (by rw [hco]; exact h3), hst, if_pos rfl, hf])
    have SE : Hid (∀ W, Calls Try.prog 26 #[.agg p.cells.toArray, .agg #[I 0, I 0], .bool c.pu] W fun e w' => e = .returned (.agg #[I a, I b]) ∧ Below W.heap.size W w') := Lib.hid (fun W => Ped.foot_is hf W)
    clear hf
    have hn0 := Blk.Bks.nil w
    have hn1 := hn0.alloc p.cells.toArray 23
    have hn2 := hn1.alloc (Ru.cells r).toArray 29
    rw [show (w.alloc (.cells p.cells.toArray 23)).heap.size = w.heap.size + 1 by simp] at hn2
    have hn3 := hn2.alloc c.cells.toArray 31
    rw [show ((w.alloc (.cells p.cells.toArray 23)).alloc (.cells (Ru.cells r).toArray 29)).heap.size = w.heap.size + 1 + 1 by simp] at hn3
    have hn4 := hn3.alloc #[I 0, I 0, I 0, I 0, I 0, I 0, I 0, .bool false, .bool false, I 0, I 0, I 0] 29
    rw [show (((w.alloc (.cells p.cells.toArray 23)).alloc (.cells (Ru.cells r).toArray 29)).alloc (.cells c.cells.toArray 31)).heap.size = w.heap.size + 1 + 1 + 1 by simp] at hn4
    clear hn0
    clear hn1
    clear hn2
    clear hn3
    go_enter Try.func12, Try.ntmps12
    go_upto_region 1 with fail
    generalize World.alloc (World.alloc (World.alloc (World.alloc w _) _) _) _ = v at hn4 ⊢
    generalize hg3 : w.heap.size + 1 + 1 + 1 = gz at hn4 ⊢
    generalize hg2 : w.heap.size + 1 + 1 = gc at hn4 ⊢
    generalize hg1 : w.heap.size + 1 = gr at hn4 ⊢
    generalize hg0 : w.heap.size = gp at hn4 ⊢
    clear hg0 hg1 hg2 hg3
    have H0 := Lib.hid hn4
    clear hn4
    have t_rco : v.cell? ⟨gr, 0, none⟩ = some (I r.co) := H0.out.cell 2 0 rfl rfl
    have t_cst : v.cell? ⟨gc, 0, none⟩ = some (.bool c.st) := H0.out.cell 1 0 rfl rfl
    rw [hco] at t_rco
    rw [hst] at t_cst
    have z1 : (k == 1) = false := by rw [beq_eq_false_iff_ne]; exact h1
    have z2 : (k == 2) = false := by rw [beq_eq_false_iff_ne]; exact h2
    have z3 : (k == 3) = false := by rw [beq_eq_false_iff_ne]; exact h3
    go_upto_region 21 with fail
    (try dsimp only [Act.put])
    have q3 : ∀ q : QB.By v.heap.size v, q.world.cell? ⟨gc, 3, none⟩ = some (.bool c.pu) := fun q => (H0.out.by q).cell 1 3 rfl rfl
    have q2 : ∀ q : QB.By v.heap.size v, q.world.cell? ⟨gp, 2, none⟩ = some (I p.gap) := fun q => (H0.out.by q).cell 3 2 rfl rfl
    refine QT.region v.heap.size 9 (by kernel_rfl) (by kernel_rfl) ?_
    simp only [List.take_succ_cons, List.take_zero]
    repeat first
      | (refine wpQuiet_load rfl 23 _ rfl ⟨gp, 0, none⟩ rfl p.cells _ (fun w' ⟨pw, e⟩ => by rw [e]; exact seg (H0.out.by pw) 3 0 rfl _ rfl) Try.underlying23 rfl infoP ?_
         dsimp only [Act.put]
         simp only [List.setIfInBounds_toArray, List.set_cons_zero, List.set_cons_succ])
      | (refine wpQuiet_load rfl 27 _ rfl ⟨gr, 9, none⟩ rfl [I r.tl, I r.tu, I r.td] _ (fun w' ⟨pw, e⟩ => by rw [e]; exact seg (H0.out.by pw) 2 9 rfl _ rfl) Try.underlying27 rfl infoTn ?_
         dsimp only [Act.put]
         simp only [List.setIfInBounds_toArray, List.set_cons_zero, List.set_cons_succ])
      | (refine wpQuiet_build rfl 25 [] rfl #[I 0, I 0] [] rfl built0 ?_
         dsimp only [Act.put]
         simp only [List.setIfInBounds_toArray, List.set_cons_zero, List.set_cons_succ])
      | (quiet_step (first | (go_at_call 26; with_reducible exact QB.call_of (Nat.le_refl _) (fun b => SE.out _))))
    refine wpQuiet_nil ?_
    intro _ hw'
    obtain ⟨pq, rfl⟩ := hw'
    have HP := Lib.hid (H0.out.by pq)
    generalize pq.world = vp at HP ⊢
    simp only [List.drop_succ_cons, List.drop_zero]
    clear q3 q2
    go_wp2_with (first | (refine wpList_build rfl 29 [(0, .const (I 1)), (1, .const (I 1)), (2, .tmp 81), (3, .tmp 83), (8, .tmp 85)] rfl (Ru.cells ⟨1, 1, a, b, p.gap, 0, 0, false, false, r.tl, r.tu, r.td⟩).toArray _ (by rfl) (built5 1 1 a b p.gap r.tl r.tu r.td) ?_) | (refine wpList_store_row rfl 29 _ _ rfl gz (Ru.cells ⟨1, 1, a, b, p.gap, 0, 0, false, false, r.tl, r.tu, r.td⟩).toArray rfl rfl 29 _ (HP.out.at 0 rfl) infoRu rfl (one_ru _) ?_))
    have hput := HP.out.put 0 rfl (Ru.cells ⟨1, 1, a, b, p.gap, 0, 0, false, false, r.tl, r.tu, r.td⟩).toArray
    simp only [List.set_cons_succ, List.set_cons_zero] at hput
    generalize World.setRow vp gz _ = vz at hput ⊢
    have HG := Lib.hid hput
    clear hput
    go_wp2_with fail
    (try simp only [Exit.inBlock, Exit.then])
    refine bodyPost_ret (v := .agg (Ru.cells ⟨1, 1, a, b, p.gap, 0, 0, false, false, r.tl, r.tu, r.td⟩).toArray) ?_ rfl ⟨ret_ru HE.out.symm, HG.out.bel⟩
    exact results_cell_row rfl _ _ gz 29 _ (0, 0) _ rfl (HG.out.at 0 rfl) Try.underlying29 rfl infoRu
theorem rstep_any (p : Ph) (r : Ru) (c : Cu) (w : World) : Calls Try.prog 12 #[.agg p.cells.toArray, .agg r.cells.toArray, .agg c.cells.toArray] w fun e w' => e = .returned (.agg (Ru.cells (stp p r c)).toArray) ∧ Below w.heap.size w w' := by
  by_cases h1 : r.co = 1
  · cases he : c.en with
    | true => exact rstep_end p r c h1 he w
    | false => exact rstep_stay p r c h1 he w
  by_cases h2 : r.co = 2
  · exact rstep_yellow p r c h2 w
  by_cases h3 : r.co = 3
  · exact rstep_clear p r c h3 w
  exact rstep_red p r c r.co rfl h1 h2 h3 w
theorem rbegin_any (p : Ph) (w : World) : Calls Try.prog 16 #[.agg p.cells.toArray] w fun e w' => e = .returned (.agg (Ru.cells (bgn p)).toArray) ∧ Below w.heap.size w w' := by
  have hn0 := Blk.Bks.nil w
  have hn1 := hn0.alloc p.cells.toArray 23
  have hn2 := hn1.alloc #[I 0, I 0, I 0, I 0, I 0, I 0, I 0, .bool false, .bool false, I 0, I 0, I 0] 29
  rw [show (w.alloc (.cells p.cells.toArray 23)).heap.size = w.heap.size + 1 by simp] at hn2
  clear hn0
  clear hn1
  go_enter Try.func16, Try.ntmps16
  go_upto_region 1 with fail
  generalize World.alloc (World.alloc w _) _ = v at hn2 ⊢
  generalize hg1 : w.heap.size + 1 = gz at hn2 ⊢
  generalize hg0 : w.heap.size = gp at hn2 ⊢
  clear hg0 hg1
  have H0 := Lib.hid hn2
  clear hn2
  have t_pmax : v.cell? ⟨gp, 3, none⟩ = some (I p.max) := H0.out.cell 1 3 rfl rfl
  go_wp2_with (first | (refine wpList_build rfl 27 [(0, .tmp 4)] rfl #[I p.max, I 0, I 0] _ (by rfl) (builtT p.max) ?_) | (refine wpList_build rfl 29 [(0, .const (I 0)), (1, .const (I 9999)), (8, .tmp 5)] rfl (Ru.cells (bgn p)).toArray _ (by rfl) (built3 0 9999 p.max 0 0) ?_) | (refine wpList_store_row rfl 29 _ _ rfl gz (Ru.cells (bgn p)).toArray rfl rfl 29 _ (H0.out.at 0 rfl) infoRu rfl (one_ru _) ?_))
  have hput := H0.out.put 0 rfl (Ru.cells (bgn p)).toArray
  simp only [List.set_cons_succ, List.set_cons_zero] at hput
  generalize World.setRow v gz _ = vz at hput ⊢
  have HG := Lib.hid hput
  clear hput
  go_wp2_with fail
  (try simp only [Exit.inBlock, Exit.then])
  refine bodyPost_ret (v := .agg (Ru.cells (bgn p)).toArray) ?_ rfl ⟨rfl, HG.out.bel⟩
  exact results_cell_row rfl _ _ gz 29 _ (0, 0) _ rfl (HG.out.at 0 rfl) Try.underlying29 rfl infoRu
theorem kept_any (p : Ph) (r : Ru) (c : Cu) (w : World) : Calls Try.prog 14 #[.agg p.cells.toArray, .agg r.cells.toArray, .agg c.cells.toArray] w fun e w' => e = .returned (.bool (hld p r c)) ∧ Below w.heap.size w w' := by
  obtain ⟨du, hdu⟩ : ∃ x, duB p c (lon p r c) = x := ⟨_, rfl⟩
  obtain ⟨D, hD⟩ : ∃ D, sty p c (lon p r c) = D := ⟨_, rfl⟩
  obtain ⟨k, hk⟩ : ∃ x, r.co = x := ⟨_, rfl⟩
  obtain ⟨en, hen⟩ : ∃ x, c.en = x := ⟨_, rfl⟩
  obtain ⟨ho, hho⟩ : ∃ x, c.ho = x := ⟨_, rfl⟩
  have HE : Hid (hld p r c = (decide (k = 1) && (!en && (ho && du)))) := Lib.hid (by unfold hld; rw [hdu, hk, hen, hho])
  have GN : Hid (∀ W, Calls Try.prog 24 #[.agg p.cells.toArray, .agg r.cells.toArray, .agg c.cells.toArray] W fun e w' => e = .returned (.tuple #[.agg D.cells.toArray, .bool du]) ∧ Below W.heap.size W w') := Lib.hid (fun W => by rw [← hD, ← hdu]; exact green_any p r c W)
  clear hD hdu
  have hn0 := Blk.Bks.nil w
  have hn1 := hn0.alloc p.cells.toArray 23
  have hn2 := hn1.alloc (Ru.cells r).toArray 29
  rw [show (w.alloc (.cells p.cells.toArray 23)).heap.size = w.heap.size + 1 by simp] at hn2
  have hn3 := hn2.alloc c.cells.toArray 31
  rw [show ((w.alloc (.cells p.cells.toArray 23)).alloc (.cells (Ru.cells r).toArray 29)).heap.size = w.heap.size + 1 + 1 by simp] at hn3
  clear hn0
  clear hn1
  clear hn2
  go_enter Try.func14, Try.ntmps14
  go_upto_region 1 with fail
  generalize World.alloc (World.alloc (World.alloc w _) _) _ = v at hn3 ⊢
  generalize hg2 : w.heap.size + 1 + 1 = gc at hn3 ⊢
  generalize hg1 : w.heap.size + 1 = gr at hn3 ⊢
  generalize hg0 : w.heap.size = gp at hn3 ⊢
  clear hg0 hg1 hg2
  have H0 := Lib.hid hn3
  clear hn3
  have t_rco : v.cell? ⟨gr, 0, none⟩ = some (I r.co) := H0.out.cell 1 0 rfl rfl
  have t_cen : v.cell? ⟨gc, 1, none⟩ = some (.bool c.en) := H0.out.cell 0 1 rfl rfl
  rw [hk] at t_rco
  rw [hen] at t_cen
  by_cases h1 : k = 1
  rotate_left
  · have z1 : (k == 1) = false := by rw [beq_eq_false_iff_ne]; exact h1
    replace HE : Hid (hld p r c = false) := Lib.hid (by rw [HE.out]; simp [*])
    go_wp2
    go_ret
    exact ⟨ret_bool HE.out.symm, H0.out.bel⟩
  subst h1
  cases en
  rotate_left
  · replace HE : Hid (hld p r c = false) := Lib.hid (by rw [HE.out]; simp [*])
    go_wp2
    go_ret
    exact ⟨ret_bool HE.out.symm, H0.out.bel⟩
  go_wp2_with (first | (refine Row.wpList_load_g 23 _ rfl (by first | rfl | (go_simp; done) | fail) ⟨gp, 0, none⟩ rfl p.cells _ (seg H0.out 2 0 rfl _ rfl) Try.underlying23 rfl infoP ?_) | (refine Row.wpList_load_g 29 _ rfl (by first | rfl | (go_simp; done) | fail) ⟨gr, 0, none⟩ rfl r.cells _ (seg H0.out 1 0 rfl _ rfl) Try.underlying29 rfl infoRu ?_) | (refine Row.wpList_load_g 31 _ rfl (by first | rfl | (go_simp; done) | fail) ⟨gc, 0, none⟩ rfl c.cells _ (seg H0.out 0 0 rfl _ rfl) Try.underlying31 rfl infoCu ?_))
  refine (GN.out _).mono ?_
  rintro e v1 ⟨rfl, bc⟩
  have H1 := Lib.hid (H0.out.step bc)
  clear bc
  clear t_rco t_cen
  go_upto_region 4 with (refine Row.wpList_store_new rfl 29 _ _ rfl _ _ D.cells.toArray rfl rfl rfl infoRu rfl (one_ru _) ?_)
  have hn := H1.out.alloc D.cells.toArray 29
  generalize World.alloc v1 _ = v2 at hn ⊢
  generalize v1.heap.size = gn at hn ⊢
  have H2 := Lib.hid hn
  clear hn
  clear H0 H1 GN
  have t_cho : v2.cell? ⟨gc, 5, none⟩ = some (.bool c.ho) := H2.out.cell 1 5 rfl rfl
  rw [hho] at t_cho
  clear hho
  cases du
  · replace HE : Hid (hld p r c = false) := Lib.hid (by rw [HE.out]; simp [*])
    go_wp2
    go_ret
    exact ⟨ret_bool HE.out.symm, H2.out.bel⟩
  cases ho
  · replace HE : Hid (hld p r c = false) := Lib.hid (by rw [HE.out]; simp [*])
    go_wp2
    go_ret
    exact ⟨ret_bool HE.out.symm, H2.out.bel⟩
  · replace HE : Hid (hld p r c = true) := Lib.hid (by rw [HE.out]; simp [*])
    go_wp2
    go_ret
    exact ⟨ret_bool HE.out.symm, H2.out.bel⟩
end Ru
namespace Ru
open Go Go.ChangeShapes Go.WideShapes Go.ChangeAt Go.RowKit
open Tab Flat TabArg QL
open May (infoP)
open Ped (ft cu idl Ft infoFt)
open Gap (lm lf gr Tn infoTn)
def awP : Ph := ⟨true, 1, 0, 1, 1, 0, 10, 2, 0, 0, 0, false, false⟩
theorem builtP : Try.prog.built 23 [(0, .bool true), (1, I 1), (3, I 1), (4, I 1), (6, I 10), (7, I 2)] = some awP.cells.toArray := by kernel_rfl
theorem builtS : Try.prog.built 31 [(0, .bool true)] = some (Cu.cells ⟨true, false, false, false, false, false, false, false⟩).toArray := by kernel_rfl
theorem builtE : Try.prog.built 31 [(1, .bool true)] = some (Cu.cells ⟨false, true, false, false, false, false, false, false⟩).toArray := by kernel_rfl
theorem builtH : Try.prog.built 31 [(4, .bool true), (5, .bool true)] = some (Cu.cells ⟨false, false, false, false, true, true, false, false⟩).toArray := by kernel_rfl
theorem builtN : Try.prog.built 31 [] = some (Cu.cells ⟨false, false, false, false, false, false, false, false⟩).toArray := by kernel_rfl
theorem builtSP (b : Bool) : Try.prog.built 31 [(0, .bool true), (3, .bool b)] = some (Cu.cells ⟨true, false, false, b, false, false, false, false⟩).toArray := by kernel_rfl
theorem builtPH (b : Bool) : Try.prog.built 31 [(4, .bool true), (2, .bool b)] = some (Cu.cells ⟨false, false, b, false, true, false, false, false⟩).toArray := by kernel_rfl
theorem builtL (b d e : Bool) : Try.prog.built 31 [(4, .bool true), (2, .bool b), (3, .bool d), (5, .bool e)] = some (Cu.cells ⟨false, false, b, d, true, e, false, false⟩).toArray := by kernel_rfl
theorem one_cu (c : Cu) : c.cells.toArray.all (·.oneCell') = true := by simp [Cu.cells, Value.oneCell']
theorem wpList_buildG {P : Program} {ops : Array Oper} {Q : Exit → Act → World → Prop} {rest : List Oper} {o : Oper} {a : Act} {w : World} (hw : Region.wanted o (yielded ops a.tmps) = true) (t : TypeId) (parts : List (Nat × Operand)) (ho : o.op = .build t parts.toArray) (cells : Array Value) (vs : List (Nat × Value)) (hv : parts.map (fun (i, x) => (i, a.eval x)) = vs) (hb : P.built t vs = some cells)
    (h : wpList P ops Q rest (a.put o.dst (.agg cells)) w) : wpList P ops Q (o :: rest) a w :=
  BigFrame.wpList_want hw fun _ hK => by
    subst hv
    unfold Oper.wp execOp
    have hb' : P.built t (parts.toArray.map fun (i, x) => (i, a.eval x)).toList = some cells := by simpa using hb
    simp only [ho, Sem.run_bind, run_build w t _ _ hb', Result.andThen_ok, Sem.run_pure]
    exact hK _ _ h
theorem awake_any (w : World) : Calls Try.prog 10 #[] w fun e w' => e = .returned (.bool true) ∧ Below w.heap.size w w' := by
  obtain ⟨p, hp⟩ : ∃ p : Ph, p = awP := ⟨_, rfl⟩
  have hb := builtP
  rw [← hp] at hb
  have HBP := Lib.hid hb
  clear hb
  obtain ⟨r0, hr0⟩ : ∃ r, bgn p = r := ⟨_, rfl⟩
  obtain ⟨r1, hr1⟩ : ∃ r : Ru, r = ⟨1, 1, 0, 0, 0, 0, 0, false, false, 1, 0, 0⟩ := ⟨_, rfl⟩
  obtain ⟨y1, hy1⟩ : ∃ r : Ru, r = ⟨2, 1, 0, 0, 0, 0, 0, false, false, 1, 0, 0⟩ := ⟨_, rfl⟩
  have BG : Hid (∀ W, Calls Try.prog 15 #[.agg p.cells.toArray] W fun e w' => e = .returned (.agg r0.cells.toArray) ∧ Below W.heap.size W w') := Lib.hid (fun W => by rw [← hr0]; exact begin_any p W)
  have S1 : Hid (∀ W, Calls Try.prog 11 #[.agg p.cells.toArray, .agg r0.cells.toArray, .agg (Cu.cells ⟨true, false, false, false, false, false, false, false⟩).toArray] W fun e w' => e = .returned (.agg r1.cells.toArray) ∧ Below W.heap.size W w') := Lib.hid (fun W => by have := step_any p r0 ⟨true, false, false, false, false, false, false, false⟩ W; rwa [show stp p r0 ⟨true, false, false, false, false, false, false, false⟩ = r1 by rw [← hr0, hr1, hp]; decide +kernel] at this)
  have S2 : Hid (∀ W, Calls Try.prog 11 #[.agg p.cells.toArray, .agg r1.cells.toArray, .agg (Cu.cells ⟨false, true, false, false, false, false, false, false⟩).toArray] W fun e w' => e = .returned (.agg y1.cells.toArray) ∧ Below W.heap.size W w') := Lib.hid (fun W => by have := step_any p r1 ⟨false, true, false, false, false, false, false, false⟩ W; rwa [show stp p r1 ⟨false, true, false, false, false, false, false, false⟩ = y1 by rw [hr1, hy1, hp]; decide +kernel] at this)
  have HE : Hid (∀ W, Calls Try.prog 13 #[.agg p.cells.toArray, .agg r1.cells.toArray, .agg (Cu.cells ⟨false, false, false, false, true, true, false, false⟩).toArray] W fun e w' => e = .returned (.bool true) ∧ Below W.heap.size W w') := Lib.hid (fun W => by have := held_any p r1 ⟨false, false, false, false, true, true, false, false⟩ W; rwa [show hld p r1 ⟨false, false, false, false, true, true, false, false⟩ = true by rw [hr1, hp]; decide +kernel] at this)
  have K0 : Hid (r1.co = 1) := Lib.hid (by rw [hr1])
  have K1 : Hid (y1.co = 2) := Lib.hid (by rw [hy1])
  have K2 : Hid (y1.tm = 1) := Lib.hid (by rw [hy1])
  clear hp hr0 hr1 hy1
  go_enter Try.func10, Try.ntmps10
  go_upto_region 2 with (first | (refine wpList_build rfl 23 [(0, .const (.bool true)), (1, .const (I 1)), (3, .const (I 1)), (4, .const (I 1)), (6, .const (I 10)), (7, .const (I 2))] rfl p.cells.toArray _ (by rfl) HBP.out ?_) | (refine Row.wpList_store_new rfl 23 _ _ rfl _ _ p.cells.toArray rfl rfl rfl infoP rfl (Ph.one _) ?_))
  have hn := (Blk.Bks.nil w).alloc p.cells.toArray 23
  generalize World.alloc w _ = v1 at hn ⊢
  generalize w.heap.size = gp at hn ⊢
  have H1 := Lib.hid hn
  clear hn HBP
  (try dsimp only [Act.put]); (try simp only [List.setIfInBounds_toArray, List.set_cons_zero, List.set_cons_succ])
  go_cut [2] from 5 (fun tx wx => ∃ g, tx = .pointer (some ⟨g, 0, none⟩) ∧ Blk.Bks w ((g, r1.cells.toArray, 29) :: [(gp, p.cells.toArray, 23)]) wx)
  case first =>
    refine wp_region_held (S := fun w' => Below v1.heap.size v1 w') (by kernel_rfl) ?_
    have hS : Below v1.heap.size v1 { v1 with drawn := v1.drawn + 1 } := (Below.refl _ _).drew
    generalize ({ v1 with drawn := v1.drawn + 1 } : World) = v at hS ⊢
    refine Held.take_load (i := 0) (some 5) rfl 23 (.tmp 1) ⟨gp, 0, none⟩ p.cells _ rfl rfl (by kernel_rfl) (by kernel_rfl) (by kernel_rfl) (fun _ _ _ h => h) (by rfl) hS rfl (fun w' hw' => seg (H1.out.step hw') 0 0 rfl _ rfl) Try.underlying23 rfl infoP ?_
    (try dsimp only [Act.put]); (try simp only [List.setIfInBounds_toArray, List.set_cons_zero, List.set_cons_succ])
    refine Held.take_load (i := 1) (some 6) rfl 23 (.tmp 1) ⟨gp, 0, none⟩ p.cells _ rfl rfl (by kernel_rfl) (by kernel_rfl) (by kernel_rfl) (fun _ _ _ h => h) (by rfl) hS rfl (fun w' hw' => seg (H1.out.step hw') 0 0 rfl _ rfl) Try.underlying23 rfl infoP ?_
    (try dsimp only [Act.put]); (try simp only [List.setIfInBounds_toArray, List.set_cons_zero, List.set_cons_succ])
    refine Held.take_build (i := 3) (some 8) rfl 31 #[(0, .const (.bool true))] (Cu.cells ⟨true, false, false, false, false, false, false, false⟩).toArray rfl rfl (by kernel_rfl) (by kernel_rfl) (by kernel_rfl) (fun _ _ _ h => h) (by rfl) hS (by have h := builtS; first | (simp [Act.eval]; exact h) | (go_simp; exact h)) ?_
    (try dsimp only [Act.put]); (try simp only [List.setIfInBounds_toArray, List.set_cons_zero, List.set_cons_succ])
    refine wpAnyH_ready (rs := [2, 5]) (by kernel_rfl) (by simp) (AllReadyH.cons rfl (fun K hK => ?_) (AllReadyH.cons rfl (fun K hK => ?_) AllReadyH.nil))
    · go_simp
      refine (BG.out _).mono ?_
      rintro e vn ⟨rfl, hb⟩
      have hq := hS.trans (hb.mono hS.size)
      clear hS hb
      go_simp
      refine hK.out _ _ hq (fun hS => ?_)
      clear hK K hq
      rename World => v
      (try dsimp only [Act.put]); (try simp only [List.setIfInBounds_toArray, List.set_cons_zero, List.set_cons_succ])
      refine wpAnyH_ready (rs := [4, 5]) (by kernel_rfl) (by simp) (AllReadyH.cons rfl (fun K hK => ?_) (AllReadyH.cons rfl (fun K hK => ?_) AllReadyH.nil))
      · go_simp
        refine (S1.out _).mono ?_
        rintro e vn ⟨rfl, hb⟩
        have hq := hS.trans (hb.mono hS.size)
        clear hS hb
        go_simp
        refine hK.out _ _ hq (fun hS => ?_)
        clear hK K hq
        rename World => v
        (try dsimp only [Act.put]); (try simp only [List.setIfInBounds_toArray, List.set_cons_zero, List.set_cons_succ])
        refine wpAnyH_ready (rs := [5]) (by kernel_rfl) (by simp) (AllReadyH.cons rfl (fun K hK => ?_) AllReadyH.nil)
        go_simp
        have ha := (H1.out.step hS).alloc #[I 0, I 0, I 0, I 0, I 0, I 0, I 0, .bool false, .bool false, I 0, I 0, I 0] 29
        have HGE := Lib.hid hS.size
        have hq := hS.alloc hS.size (.cells #[I 0, I 0, I 0, I 0, I 0, I 0, I 0, .bool false, .bool false, I 0, I 0, I 0] 29)
        clear hS
        generalize v.heap.size = ga at ha HGE ⊢
        generalize World.alloc v _ = va at ha hq ⊢
        have HA := Lib.hid ha
        clear ha
        refine hK.out _ _ hq (fun hS => ?_)
        clear hK K hq
        rename World => v
        (try dsimp only [Act.put]); (try simp only [List.setIfInBounds_toArray, List.set_cons_zero, List.set_cons_succ])
        refine wpAnyH_ready (rs := [6]) (by kernel_rfl) (by simp) (AllReadyH.cons rfl (fun K hK => ?_) AllReadyH.nil)
        rw [if_pos (by rfl)]
        refine wp_store_row 29 _ _ rfl ga r1.cells.toArray rfl rfl 29 _ (HA.out.at 0 rfl) infoRu rfl (one_ru _) ?_
        have hq := below_setRow hS (g := ga) HGE.out r1.cells.toArray
        have hput := HA.out.put 0 rfl r1.cells.toArray
        simp only [List.set_cons_succ, List.set_cons_zero] at hput
        generalize World.setRow _ ga _ = vs at hput hq ⊢
        have HC := Lib.hid hput
        clear hput
        refine hK.out _ _ hq (fun hS => ?_)
        clear hK K hq
        (try simp only [List.getElem_toArray, List.getElem_cons_succ, List.getElem_cons_zero])
        (try dsimp only [Act.put]); (try simp only [List.setIfInBounds_toArray, List.set_cons_zero, List.set_cons_succ])
        refine wpAnyH_done (by kernel_rfl) ?_ _
        go_wp2_with fail
        go_meet
        case rel => exact ⟨ga, rfl, HC.out⟩
      · go_simp
        have ha := (H1.out.step hS).alloc #[I 0, I 0, I 0, I 0, I 0, I 0, I 0, .bool false, .bool false, I 0, I 0, I 0] 29
        have HGE := Lib.hid hS.size
        have hq := hS.alloc hS.size (.cells #[I 0, I 0, I 0, I 0, I 0, I 0, I 0, .bool false, .bool false, I 0, I 0, I 0] 29)
        clear hS
        generalize v.heap.size = ga at ha HGE ⊢
        generalize World.alloc v _ = va at ha hq ⊢
        have HA := Lib.hid ha
        clear ha
        refine hK.out _ _ hq (fun hS => ?_)
        clear hK K hq
        rename World => v
        (try dsimp only [Act.put]); (try simp only [List.setIfInBounds_toArray, List.set_cons_zero, List.set_cons_succ])
        refine wpAnyH_ready (rs := [4]) (by kernel_rfl) (by simp) (AllReadyH.cons rfl (fun K hK => ?_) AllReadyH.nil)
        go_simp
        refine (S1.out _).mono ?_
        rintro e vn ⟨rfl, hb⟩
        have hq := hS.trans (hb.mono hS.size)
        have HA2 := Lib.hid (HA.out.step hb)
        clear HA
        have HA := HA2
        clear HA2
        clear hS hb
        go_simp
        refine hK.out _ _ hq (fun hS => ?_)
        clear hK K hq
        rename World => v
        (try dsimp only [Act.put]); (try simp only [List.setIfInBounds_toArray, List.set_cons_zero, List.set_cons_succ])
        refine wpAnyH_ready (rs := [6]) (by kernel_rfl) (by simp) (AllReadyH.cons rfl (fun K hK => ?_) AllReadyH.nil)
        rw [if_pos (by rfl)]
        refine wp_store_row 29 _ _ rfl ga r1.cells.toArray rfl rfl 29 _ (HA.out.at 0 rfl) infoRu rfl (one_ru _) ?_
        have hq := below_setRow hS (g := ga) HGE.out r1.cells.toArray
        have hput := HA.out.put 0 rfl r1.cells.toArray
        simp only [List.set_cons_succ, List.set_cons_zero] at hput
        generalize World.setRow _ ga _ = vs at hput hq ⊢
        have HC := Lib.hid hput
        clear hput
        refine hK.out _ _ hq (fun hS => ?_)
        clear hK K hq
        (try simp only [List.getElem_toArray, List.getElem_cons_succ, List.getElem_cons_zero])
        (try dsimp only [Act.put]); (try simp only [List.setIfInBounds_toArray, List.set_cons_zero, List.set_cons_succ])
        refine wpAnyH_done (by kernel_rfl) ?_ _
        go_wp2_with fail
        go_meet
        case rel => exact ⟨ga, rfl, HC.out⟩
    · go_simp
      have ha := (H1.out.step hS).alloc #[I 0, I 0, I 0, I 0, I 0, I 0, I 0, .bool false, .bool false, I 0, I 0, I 0] 29
      have HGE := Lib.hid hS.size
      have hq := hS.alloc hS.size (.cells #[I 0, I 0, I 0, I 0, I 0, I 0, I 0, .bool false, .bool false, I 0, I 0, I 0] 29)
      clear hS
      generalize v.heap.size = ga at ha HGE ⊢
      generalize World.alloc v _ = va at ha hq ⊢
      have HA := Lib.hid ha
      clear ha
      refine hK.out _ _ hq (fun hS => ?_)
      clear hK K hq
      rename World => v
      (try dsimp only [Act.put]); (try simp only [List.setIfInBounds_toArray, List.set_cons_zero, List.set_cons_succ])
      refine wpAnyH_ready (rs := [2]) (by kernel_rfl) (by simp) (AllReadyH.cons rfl (fun K hK => ?_) AllReadyH.nil)
      go_simp
      refine (BG.out _).mono ?_
      rintro e vn ⟨rfl, hb⟩
      have hq := hS.trans (hb.mono hS.size)
      have HA2 := Lib.hid (HA.out.step hb)
      clear HA
      have HA := HA2
      clear HA2
      clear hS hb
      go_simp
      refine hK.out _ _ hq (fun hS => ?_)
      clear hK K hq
      rename World => v
      (try dsimp only [Act.put]); (try simp only [List.setIfInBounds_toArray, List.set_cons_zero, List.set_cons_succ])
      refine wpAnyH_ready (rs := [4]) (by kernel_rfl) (by simp) (AllReadyH.cons rfl (fun K hK => ?_) AllReadyH.nil)
      go_simp
      refine (S1.out _).mono ?_
      rintro e vn ⟨rfl, hb⟩
      have hq := hS.trans (hb.mono hS.size)
      have HA2 := Lib.hid (HA.out.step hb)
      clear HA
      have HA := HA2
      clear HA2
      clear hS hb
      go_simp
      refine hK.out _ _ hq (fun hS => ?_)
      clear hK K hq
      rename World => v
      (try dsimp only [Act.put]); (try simp only [List.setIfInBounds_toArray, List.set_cons_zero, List.set_cons_succ])
      refine wpAnyH_ready (rs := [6]) (by kernel_rfl) (by simp) (AllReadyH.cons rfl (fun K hK => ?_) AllReadyH.nil)
      rw [if_pos (by rfl)]
      refine wp_store_row 29 _ _ rfl ga r1.cells.toArray rfl rfl 29 _ (HA.out.at 0 rfl) infoRu rfl (one_ru _) ?_
      have hq := below_setRow hS (g := ga) HGE.out r1.cells.toArray
      have hput := HA.out.put 0 rfl r1.cells.toArray
      simp only [List.set_cons_succ, List.set_cons_zero] at hput
      generalize World.setRow _ ga _ = vs at hput hq ⊢
      have HC := Lib.hid hput
      clear hput
      refine hK.out _ _ hq (fun hS => ?_)
      clear hK K hq
      (try simp only [List.getElem_toArray, List.getElem_cons_succ, List.getElem_cons_zero])
      (try dsimp only [Act.put]); (try simp only [List.setIfInBounds_toArray, List.set_cons_zero, List.set_cons_succ])
      refine wpAnyH_done (by kernel_rfl) ?_ _
      go_wp2_with fail
      go_meet
      case rel => exact ⟨ga, rfl, HC.out⟩
  case rest =>
  obtain ⟨gr, rfl, hcut⟩ := hcut
  have HW := Lib.hid hcut
  clear hcut
  rename World => wx
  have H3 := HW
  clear HW H1
  go_wp2_with (first | (refine Row.wpList_load_g 23 _ rfl (by first | rfl | (go_simp; done) | fail) ⟨gp, 0, none⟩ rfl p.cells _ (seg H3.out 1 0 rfl _ rfl) Try.underlying23 rfl infoP ?_) | (refine Row.wpList_load_g 29 _ rfl (by first | rfl | (go_simp; done) | fail) ⟨gr, 0, none⟩ rfl r1.cells _ (seg H3.out 0 0 rfl _ rfl) Try.underlying29 rfl infoRu ?_) | (refine wpList_build rfl 31 [(1, .const (.bool true))] rfl (Cu.cells ⟨false, true, false, false, false, false, false, false⟩).toArray _ (by rfl) (builtE) ?_))
  refine (S2.out _).mono ?_
  rintro e v4 ⟨rfl, bc⟩
  have H4 := Lib.hid (H3.out.step bc)
  clear bc
  go_upto_region 4 with (refine Row.wpList_store_new rfl 29 _ _ rfl _ _ y1.cells.toArray rfl rfl rfl infoRu rfl (one_ru _) ?_)
  have hn := H4.out.alloc y1.cells.toArray 29
  generalize World.alloc v4 _ = v5 at hn ⊢
  generalize v4.heap.size = gy at hn ⊢
  have H5 := Lib.hid hn
  clear hn
  clear H3 H4
  have k0 : v5.cell? ⟨gr, 0, none⟩ = some (I r1.co) := H5.out.cell 1 0 rfl rfl
  have k1 : v5.cell? ⟨gy, 0, none⟩ = some (I y1.co) := H5.out.cell 0 0 rfl rfl
  have k2 : v5.cell? ⟨gy, 1, none⟩ = some (I y1.tm) := H5.out.cell 0 1 rfl rfl
  rw [K0.out] at k0
  rw [K1.out] at k1
  rw [K2.out] at k2
  go_wp2_with (first | (refine Row.wpList_load_g 23 _ rfl (by first | rfl | (go_simp; done) | fail) ⟨gp, 0, none⟩ rfl p.cells _ (seg H5.out 2 0 rfl _ rfl) Try.underlying23 rfl infoP ?_) | (refine Row.wpList_load_g 29 _ rfl (by first | rfl | (go_simp; done) | fail) ⟨gr, 0, none⟩ rfl r1.cells _ (seg H5.out 1 0 rfl _ rfl) Try.underlying29 rfl infoRu ?_) | (refine wpList_buildG (by first | rfl | (go_simp; done) | fail) 31 [(4, .const (.bool true)), (5, .const (.bool true))] rfl (Cu.cells ⟨false, false, false, false, true, true, false, false⟩).toArray _ (by rfl) (builtH) ?_))
  refine (HE.out _).mono ?_
  rintro e v6 ⟨rfl, b6⟩
  go_wp2
  go_ret
  exact ⟨rfl, (H5.out.step b6).bel⟩
end Ru
namespace Ru
open Go Go.ChangeShapes Go.WideShapes Go.ChangeAt Go.RowKit
open Tab Flat TabArg QL
open May (infoP)
open Ped (ft cu idl Ft infoFt)
open Gap (lm lf gr Tn infoTn)
/-- a bit of a number -/
def bt (k : Int) : Bool := Go.bits BinOp.and IntKind.i64 k 1 == 1
def btA (k : Int) (q : Nat) : Array Value := #[.bool (decide (0 < q) && bt k), .bool (decide (1 < q) && bt (k / 2)), .bool (decide (2 < q) && bt (k / 4)), .bool (decide (3 < q) && bt (k / 8)), .bool (decide (4 < q) && bt (k / 16)), .bool (decide (5 < q) && bt (k / 32))]
def cueV (k : Int) : Cu := ⟨k / 1024 % 4 == 0, k / 4096 % 16 == 0, bt k, bt (k / 2), bt (k / 4) || bt (k / 8), bt (k / 16), bt (k / 32) && bt (k / 64), k / 128 % 8 == 0⟩
theorem builtA : Try.prog.built 81 [] = some #[.bool false, .bool false, .bool false, .bool false, .bool false, .bool false] := by kernel_rfl
theorem infoA6 : (Try.prog.info? 81).map (·.size) = some 6 := by kernel_rfl
theorem cue_any (n : Int) (w : World) : Calls Try.prog 19 #[.int .i64 n] w fun e w' => e = .returned (.agg (Cu.cells (cueV (n % 1099511627776))).toArray) ∧ Below w.heap.size w w' := by
  obtain ⟨k, hk⟩ : ∃ k, n % 1099511627776 = k := ⟨_, rfl⟩
  rw [hk]
  have k0 : 0 ≤ k := by omega
  have k1 : k < 1099511627776 := by omega
  have PL : Hid (∀ W, Calls Try.prog 18 #[.int .i64 n, .int .i64 1099511627776] W fun e w' => e = .returned (.int .i64 k) ∧ W = w') := Lib.hid (fun W => by have := Cnt.place_any n 1099511627776 W (by decide) (by decide); rwa [hk] at this)
  clear hk
  have hn0 := (Blk.Bks.nil w).alloc #[.bool false, .bool false, .bool false, .bool false, .bool false, .bool false, .bool false, .bool false] 31
  go_enter Try.func19, Try.ntmps19
  go_upto_region 2 with (go_at_call 18; refine (PL.out _).mono ?_; rintro e w' ⟨rfl, rfl⟩)
  generalize World.alloc w _ = v at hn0 ⊢
  generalize w.heap.size = gz at hn0 ⊢
  have H0 := Lib.hid hn0
  clear hn0
  go_upto_region 3 with (first | (refine wpList_build rfl 81 [] rfl #[.bool false, .bool false, .bool false, .bool false, .bool false, .bool false] [] rfl builtA ?_) | (refine Row.wpList_store_new rfl 81 _ _ rfl _ _ #[.bool false, .bool false, .bool false, .bool false, .bool false, .bool false] rfl rfl rfl infoA6 rfl rfl ?_))
  have hn := H0.out.alloc #[.bool false, .bool false, .bool false, .bool false, .bool false, .bool false] 81
  generalize World.alloc v _ = v1 at hn ⊢
  generalize v.heap.size = gb at hn ⊢
  have H1 := Lib.hid hn
  clear hn
  clear H0
  go_wp2_with fail
  go_loopw [5] (fun i wr => ∃ (q : Nat), q ≤ 6 ∧ i = .int .i64 q ∧ Blk.Bks w [(gb, btA k q, 81), (gz, #[.bool false, .bool false, .bool false, .bool false, .bool false, .bool false, .bool false, .bool false], 31)] wr) (fun i _ => 6 - (intOf i).toNat)
  case atStart => exact ⟨0, by omega, rfl, H1.out⟩
  case round =>
    obtain ⟨q, hq, rfl, hB⟩ := hrel
    have HB := Lib.hid hB
    clear hB H1
    by_cases hlt : q < 6
    · obtain rfl | rfl | rfl | rfl | rfl | rfl : q = 0 ∨ q = 1 ∨ q = 2 ∨ q = 3 ∨ q = 4 ∨ q = 5 := by omega
      all_goals clear hq hlt
      · have f0 : wr.frozen? ⟨gb, 0, none⟩ = false := HB.out.frozen 0 0 rfl
        have c0 : wr.cell? ⟨gb, 0, none⟩ = some (.bool false) := HB.out.cell 0 0 rfl rfl
        go_wp2_with fail
        have hput := HB.out.set 0 0 rfl (.bool (bt k))
        rw [show Array.setIfInBounds _ 0 (.bool (bt k)) = btA k 1 from rfl] at hput
        simp only [List.set_cons_zero] at hput
        refine ⟨⟨1, by omega, rfl, hput⟩, by simp [intOf]⟩
      · have f0 : wr.frozen? ⟨gb, 1, none⟩ = false := HB.out.frozen 0 1 rfl
        have c0 : wr.cell? ⟨gb, 1, none⟩ = some (.bool false) := HB.out.cell 0 1 rfl rfl
        go_wp2_with fail
        have hput := HB.out.set 0 1 rfl (.bool (bt (k / 2)))
        rw [show Array.setIfInBounds _ 1 (.bool (bt (k / 2))) = btA k 2 from rfl] at hput
        simp only [List.set_cons_zero] at hput
        refine ⟨⟨2, by omega, rfl, hput⟩, by simp [intOf]⟩
      · have f0 : wr.frozen? ⟨gb, 2, none⟩ = false := HB.out.frozen 0 2 rfl
        have c0 : wr.cell? ⟨gb, 2, none⟩ = some (.bool false) := HB.out.cell 0 2 rfl rfl
        go_wp2_with fail
        have hput := HB.out.set 0 2 rfl (.bool (bt (k / 4)))
        rw [show Array.setIfInBounds _ 2 (.bool (bt (k / 4))) = btA k 3 from rfl] at hput
        simp only [List.set_cons_zero] at hput
        refine ⟨⟨3, by omega, rfl, hput⟩, by simp [intOf]⟩
      · have f0 : wr.frozen? ⟨gb, 3, none⟩ = false := HB.out.frozen 0 3 rfl
        have c0 : wr.cell? ⟨gb, 3, none⟩ = some (.bool false) := HB.out.cell 0 3 rfl rfl
        go_wp2_with fail
        have hput := HB.out.set 0 3 rfl (.bool (bt (k / 8)))
        rw [show Array.setIfInBounds _ 3 (.bool (bt (k / 8))) = btA k 4 from rfl] at hput
        simp only [List.set_cons_zero] at hput
        refine ⟨⟨4, by omega, rfl, hput⟩, by simp [intOf]⟩
      · have f0 : wr.frozen? ⟨gb, 4, none⟩ = false := HB.out.frozen 0 4 rfl
        have c0 : wr.cell? ⟨gb, 4, none⟩ = some (.bool false) := HB.out.cell 0 4 rfl rfl
        go_wp2_with fail
        have hput := HB.out.set 0 4 rfl (.bool (bt (k / 16)))
        rw [show Array.setIfInBounds _ 4 (.bool (bt (k / 16))) = btA k 5 from rfl] at hput
        simp only [List.set_cons_zero] at hput
        refine ⟨⟨5, by omega, rfl, hput⟩, by simp [intOf]⟩
      · have f0 : wr.frozen? ⟨gb, 5, none⟩ = false := HB.out.frozen 0 5 rfl
        have c0 : wr.cell? ⟨gb, 5, none⟩ = some (.bool false) := HB.out.cell 0 5 rfl rfl
        go_wp2_with fail
        have hput := HB.out.set 0 5 rfl (.bool (bt (k / 32)))
        rw [show Array.setIfInBounds _ 5 (.bool (bt (k / 32))) = btA k 6 from rfl] at hput
        simp only [List.set_cons_zero] at hput
        refine ⟨⟨6, by omega, rfl, hput⟩, by simp [intOf]⟩
    · obtain rfl : q = 6 := by omega
      obtain ⟨b0, hb0⟩ : ∃ b, bt k = b := ⟨_, rfl⟩
      obtain ⟨b1, hb1⟩ : ∃ b, bt (k / 2) = b := ⟨_, rfl⟩
      obtain ⟨b2, hb2⟩ : ∃ b, bt (k / 4) = b := ⟨_, rfl⟩
      obtain ⟨b3, hb3⟩ : ∃ b, bt (k / 8) = b := ⟨_, rfl⟩
      obtain ⟨b4, hb4⟩ : ∃ b, bt (k / 16) = b := ⟨_, rfl⟩
      obtain ⟨b5, hb5⟩ : ∃ b, bt (k / 32) = b := ⟨_, rfl⟩
      have k0' : wr.cell? ⟨gb, 0, none⟩ = some (.bool b0) := by rw [← hb0]; exact HB.out.cell 0 0 rfl rfl
      have k1' : wr.cell? ⟨gb, 1, none⟩ = some (.bool b1) := by rw [← hb1]; exact HB.out.cell 0 1 rfl rfl
      have k2' : wr.cell? ⟨gb, 2, none⟩ = some (.bool b2) := by rw [← hb2]; exact HB.out.cell 0 2 rfl rfl
      have k3' : wr.cell? ⟨gb, 3, none⟩ = some (.bool b3) := by rw [← hb3]; exact HB.out.cell 0 3 rfl rfl
      have k4' : wr.cell? ⟨gb, 4, none⟩ = some (.bool b4) := by rw [← hb4]; exact HB.out.cell 0 4 rfl rfl
      have k5' : wr.cell? ⟨gb, 5, none⟩ = some (.bool b5) := by rw [← hb5]; exact HB.out.cell 0 5 rfl rfl
      obtain ⟨D, hD⟩ : ∃ D, cueV k = D := ⟨_, rfl⟩
      have HDK := Lib.hid hD
      unfold cueV at hD
      rw [hb0, hb1, hb2, hb3, hb4, hb5] at hD
      have HD := Lib.hid hD
      clear hD hb0 hb1 hb2 hb3 hb4 hb5
      cases b2
      · cases b5
        · have HV : Hid ((⟨k / 1024 % 4 == 0, k / 4096 % 16 == 0, b0, b1, b3, b4, false, k / 128 % 8 == 0⟩ : Cu) = D) := Lib.hid (by rw [← HD.out]; simp)
          go_wp2_with (refine wpList_store_row rfl 31 _ _ rfl gz #[.bool (k / 1024 % 4 == 0), .bool (k / 4096 % 16 == 0), .bool b0, .bool b1, .bool b3, .bool b4, .bool false, .bool (k / 128 % 8 == 0)] rfl rfl 31 _ (HB.out.at 1 rfl) infoCu rfl (by simp [Value.oneCell']) ?_)
          have hput := HB.out.put 1 rfl #[.bool (k / 1024 % 4 == 0), .bool (k / 4096 % 16 == 0), .bool b0, .bool b1, .bool b3, .bool b4, .bool false, .bool (k / 128 % 8 == 0)]
          simp only [List.set_cons_succ, List.set_cons_zero] at hput
          generalize World.setRow _ gz _ = vz at hput ⊢
          have HG := Lib.hid hput
          clear hput
          (try go_wp2_with fail)
          (try simp only [Exit.inBlock, Exit.then])
          refine bodyPost_ret (v := .agg #[.bool (k / 1024 % 4 == 0), .bool (k / 4096 % 16 == 0), .bool b0, .bool b1, .bool b3, .bool b4, .bool false, .bool (k / 128 % 8 == 0)]) ?_ rfl ⟨by rw [HDK.out, ← HV.out]; rfl, HG.out.bel⟩
          exact results_cell_row rfl _ _ gz 31 _ (0, 0) _ rfl (HG.out.at 1 rfl) Try.underlying31 rfl infoCu
        · have HV : Hid ((⟨k / 1024 % 4 == 0, k / 4096 % 16 == 0, b0, b1, b3, b4, bt (k / 64), k / 128 % 8 == 0⟩ : Cu) = D) := Lib.hid (by rw [← HD.out]; simp)
          go_wp2_with (refine wpList_store_row rfl 31 _ _ rfl gz #[.bool (k / 1024 % 4 == 0), .bool (k / 4096 % 16 == 0), .bool b0, .bool b1, .bool b3, .bool b4, .bool (bt (k / 64)), .bool (k / 128 % 8 == 0)] rfl rfl 31 _ (HB.out.at 1 rfl) infoCu rfl (by simp [Value.oneCell']) ?_)
          have hput := HB.out.put 1 rfl #[.bool (k / 1024 % 4 == 0), .bool (k / 4096 % 16 == 0), .bool b0, .bool b1, .bool b3, .bool b4, .bool (bt (k / 64)), .bool (k / 128 % 8 == 0)]
          simp only [List.set_cons_succ, List.set_cons_zero] at hput
          generalize World.setRow _ gz _ = vz at hput ⊢
          have HG := Lib.hid hput
          clear hput
          (try go_wp2_with fail)
          (try simp only [Exit.inBlock, Exit.then])
          refine bodyPost_ret (v := .agg #[.bool (k / 1024 % 4 == 0), .bool (k / 4096 % 16 == 0), .bool b0, .bool b1, .bool b3, .bool b4, .bool (bt (k / 64)), .bool (k / 128 % 8 == 0)]) ?_ rfl ⟨by rw [HDK.out, ← HV.out]; rfl, HG.out.bel⟩
          exact results_cell_row rfl _ _ gz 31 _ (0, 0) _ rfl (HG.out.at 1 rfl) Try.underlying31 rfl infoCu
      · cases b5
        · have HV : Hid ((⟨k / 1024 % 4 == 0, k / 4096 % 16 == 0, b0, b1, true, b4, false, k / 128 % 8 == 0⟩ : Cu) = D) := Lib.hid (by rw [← HD.out]; simp)
          go_wp2_with (refine wpList_store_row rfl 31 _ _ rfl gz #[.bool (k / 1024 % 4 == 0), .bool (k / 4096 % 16 == 0), .bool b0, .bool b1, .bool true, .bool b4, .bool false, .bool (k / 128 % 8 == 0)] rfl rfl 31 _ (HB.out.at 1 rfl) infoCu rfl (by simp [Value.oneCell']) ?_)
          have hput := HB.out.put 1 rfl #[.bool (k / 1024 % 4 == 0), .bool (k / 4096 % 16 == 0), .bool b0, .bool b1, .bool true, .bool b4, .bool false, .bool (k / 128 % 8 == 0)]
          simp only [List.set_cons_succ, List.set_cons_zero] at hput
          generalize World.setRow _ gz _ = vz at hput ⊢
          have HG := Lib.hid hput
          clear hput
          (try go_wp2_with fail)
          (try simp only [Exit.inBlock, Exit.then])
          refine bodyPost_ret (v := .agg #[.bool (k / 1024 % 4 == 0), .bool (k / 4096 % 16 == 0), .bool b0, .bool b1, .bool true, .bool b4, .bool false, .bool (k / 128 % 8 == 0)]) ?_ rfl ⟨by rw [HDK.out, ← HV.out]; rfl, HG.out.bel⟩
          exact results_cell_row rfl _ _ gz 31 _ (0, 0) _ rfl (HG.out.at 1 rfl) Try.underlying31 rfl infoCu
        · have HV : Hid ((⟨k / 1024 % 4 == 0, k / 4096 % 16 == 0, b0, b1, true, b4, bt (k / 64), k / 128 % 8 == 0⟩ : Cu) = D) := Lib.hid (by rw [← HD.out]; simp)
          go_wp2_with (refine wpList_store_row rfl 31 _ _ rfl gz #[.bool (k / 1024 % 4 == 0), .bool (k / 4096 % 16 == 0), .bool b0, .bool b1, .bool true, .bool b4, .bool (bt (k / 64)), .bool (k / 128 % 8 == 0)] rfl rfl 31 _ (HB.out.at 1 rfl) infoCu rfl (by simp [Value.oneCell']) ?_)
          have hput := HB.out.put 1 rfl #[.bool (k / 1024 % 4 == 0), .bool (k / 4096 % 16 == 0), .bool b0, .bool b1, .bool true, .bool b4, .bool (bt (k / 64)), .bool (k / 128 % 8 == 0)]
          simp only [List.set_cons_succ, List.set_cons_zero] at hput
          generalize World.setRow _ gz _ = vz at hput ⊢
          have HG := Lib.hid hput
          clear hput
          (try go_wp2_with fail)
          (try simp only [Exit.inBlock, Exit.then])
          refine bodyPost_ret (v := .agg #[.bool (k / 1024 % 4 == 0), .bool (k / 4096 % 16 == 0), .bool b0, .bool b1, .bool true, .bool b4, .bool (bt (k / 64)), .bool (k / 128 % 8 == 0)]) ?_ rfl ⟨by rw [HDK.out, ← HV.out]; rfl, HG.out.bel⟩
          exact results_cell_row rfl _ _ gz 31 _ (0, 0) _ rfl (HG.out.at 1 rfl) Try.underlying31 rfl infoCu
end Ru
namespace Fits
open Go.ChangeShapes Go.WideShapes Go.ChangeAt Go.RowKit
open Tab Clone QL
open May (infoP)
end Fits
namespace Arg
open Go Go.RowKit Go.ChangeShapes Tab
section
variable {α : Type} {n : Nat} {f : α → List Value} {w u : World} {s : Sl} {l : List α}
/-- The elements of a slice: one address for all. -/
theorem rows_at (h : RowOf n f w s l) : ∃ x : Addr, (∀ q (hq : q < l.length), s.a = some x ∧ Lies w (x.add (q * n)) (f l[q])) ∧ l.length ≤ s.cap ∧ s.cap ≤ maxLen := by
  obtain ⟨h1, h2⟩ := h.len
  cases hs : s.a with
  | none =>
    refine ⟨⟨0, 0, none⟩, fun q hq => ?_, h1, h2⟩
    obtain ⟨x, e, _⟩ := h.at (List.getElem?_eq_getElem hq)
    rw [hs] at e; cases e
  | some y =>
    refine ⟨y, fun q hq => ?_, h1, h2⟩
    obtain ⟨x, e, k⟩ := h.at (List.getElem?_eq_getElem hq)
    rw [hs] at e
    obtain rfl := Option.some.inj e
    exact ⟨rfl, k⟩
/-- One-cell elements, in a later world. -/
theorem one_below {v : Value} {x : Addr} {q : Nat} (h : Lies w (x.add (q * 1)) [v]) (hb : Below w.heap.size w u) : u.cell? (x.add q) = some v := by
  have := Lies.below h hb 0 v rfl
  rwa [Tab.add_zero, Nat.mul_one] at this
/-- A slice of bools, as a function. -/
theorem bools_at {l : List Bool} (h : RowOf 1 (fun b : Bool => [Value.bool b]) w s l) : ∃ (x : Addr) (z : Nat → Bool), (∀ q, q < l.length → s.a = some x ∧ Lies w (x.add (q * 1)) [.bool (z q)]) ∧ l.length ≤ s.cap ∧ s.cap ≤ maxLen := by
  obtain ⟨x, h0, h1, h2⟩ := rows_at h
  refine ⟨x, fun q => l.getD q false, fun q hq => ?_, h1, h2⟩
  obtain ⟨e, k⟩ := h0 q hq
  refine ⟨e, ?_⟩
  show Lies w _ [Value.bool (l.getD q false)]
  rw [show l.getD q false = l[q] by simp [List.getD, List.getElem?_eq_getElem hq]]
  exact k
/-- A slice of integers, as a function. -/
theorem ints_at {l : List Int} (h : RowOf 1 (fun n : Int => [Tab.I n]) w s l) : ∃ (x : Addr) (z : Nat → Int), (∀ q, q < l.length → s.a = some x ∧ Lies w (x.add (q * 1)) [Tab.I (z q)]) ∧ l.length ≤ s.cap ∧ s.cap ≤ maxLen := by
  obtain ⟨x, h0, h1, h2⟩ := rows_at h
  refine ⟨x, fun q => l.getD q 0, fun q hq => ?_, h1, h2⟩
  obtain ⟨e, k⟩ := h0 q hq
  refine ⟨e, ?_⟩
  show Lies w _ [Tab.I (l.getD q 0)]
  rw [show l.getD q 0 = l[q] by simp [List.getD, List.getElem?_eq_getElem hq]]
  exact k
end
end Arg
end Go.Proofs.Ytbpfknkbiaplpaa
