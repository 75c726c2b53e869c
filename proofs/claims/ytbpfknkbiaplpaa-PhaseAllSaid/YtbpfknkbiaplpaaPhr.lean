/- The document's green: a green time that goes on, and whether it is due. -/
import Derived.Test.YtbpfknkbiaplpaaRu
import Derived.Test.YtbpfknkbiaplpaaPha
import Derived.Test.YtbpfknkbiaplpaaWhere
namespace Go.Proofs.Ytbpfknkbiaplpaa.Ru
open Go Go.ChangeShapes Go.WideShapes Go.ChangeAt Go.RowKit
open Tab Flat TabArg QL
open May (infoP)
open Ped (ft cu idl Ft infoFt)
open Gap (lm lf gr Tn infoTn)
set_option linter.unusedVariables false
set_option linter.unusedSimpArgs false
set_option maxRecDepth 100000
set_option maxHeartbeats 16000000 in
theorem green_any (p : Ph) (r : Ru) (c : Cu) (w : World) : Calls Try.prog 24 #[.agg p.cells.toArray, .agg r.cells.toArray, .agg c.cells.toArray] w fun e w' => e = .returned (.tuple #[.agg (Ru.cells (sty p c (lon p r c))).toArray, .bool (duB p c (lon p r c))]) ∧ Below w.heap.size w w' := by
  obtain ⟨n1, hn1⟩ : ∃ x, Cnt.more r.tm = x := ⟨_, rfl⟩
  obtain ⟨⟨a, b⟩, hf⟩ : ∃ x, fooA p r c = x := ⟨_, rfl⟩
  obtain ⟨l1, hl1⟩ : ∃ x, lf p.gap r.lf c.he = x := ⟨_, rfl⟩
  obtain ⟨n2, hn2⟩ : ∃ x, Cnt.more r.pr = x := ⟨_, rfl⟩
  obtain ⟨e1, he1⟩ : ∃ x, Cnt.more r.ex = x := ⟨_, rfl⟩
  obtain ⟨i1, hi1⟩ : ∃ x, idl r.fs = x := ⟨_, rfl⟩
  obtain ⟨i2, hi2⟩ : ∃ x, idl a = x := ⟨_, rfl⟩
  obtain ⟨lm1, hlm⟩ : ∃ x, lm p r.tl = x := ⟨_, rfl⟩
  obtain ⟨pr1, hpr⟩ : ∃ x, (if c.ps then n2 else r.pr) = x := ⟨_, rfl⟩
  obtain ⟨dn1, hdn⟩ : ∃ x, (r.dn && !(i1 && decide (a = 1))) = x := ⟨_, rfl⟩
  obtain ⟨mx1, hmx⟩ : ∃ x, (r.mx && !(i1 && decide (a = 1))) = x := ⟨_, rfl⟩
  obtain ⟨lng, hlng⟩ : ∃ x, decide (lm1 ≤ pr1) = x := ⟨_, rfl⟩
  obtain ⟨du, hdu⟩ : ∃ x, (c.ps && (!dn1 && (decide (p.min ≤ n1) && (i2 && (decide (l1 = 0) || (lng || c.ea)))))) = x := ⟨_, rfl⟩
  obtain ⟨ex1, hex⟩ : ∃ x, (if (du && c.ho) = true then e1 else r.ex) = x := ⟨_, rfl⟩
  obtain ⟨dn2, hdn2⟩ : ∃ x, (if (du && !c.ho) = true then true else dn1) = x := ⟨_, rfl⟩
  obtain ⟨mx2, hmx2⟩ : ∃ x, (if (du && !c.ho) = true then decide (0 < l1) && lng else mx1) = x := ⟨_, rfl⟩
  have EL : lon p r c = ⟨r.co, n1, a, b, l1, pr1, r.ex, dn1, mx1, r.tl, r.tu, r.td⟩ := by unfold lon beg; rw [hn1, hf, hl1, hn2, hi1, hdn, hmx, hpr]
  have EF : fuB p (lon p r c) = lng := by rw [EL]; unfold fuB; rw [hlm, hlng]
  have ED : duB p c (lon p r c) = du := by unfold duB; rw [EF, EL]; simp only []; rw [hi2, hdu]
  have ES : sty p c (lon p r c) = ⟨r.co, n1, a, b, l1, pr1, ex1, dn2, mx2, r.tl, r.tu, r.td⟩ := by
    unfold sty
    rw [ED, EF, EL, ← hex, ← hdn2, ← hmx2]
    generalize c.ho = ho
    cases du <;> cases ho <;> simp [he1]
  rw [ED, ES]
  clear ED ES EF EL
  have HN := Lib.hid hdn
  have HM := Lib.hid hmx
  have HP1 := Lib.hid hpr
  have HL := Lib.hid hlng
  have HDU := Lib.hid hdu
  have HEX := Lib.hid hex
  have HN2 := Lib.hid hdn2
  have HM2 := Lib.hid hmx2
  clear hdn hmx hpr hlng hdu hex hdn2 hmx2
  have O1 : Hid (∀ W, Calls Try.prog 25 #[.int .i64 r.tm] W fun e w' => e = .returned (.int .i64 n1) ∧ W = w') := Lib.hid (fun W => by rw [← hn1]; exact Cnt.rmore_any _ W)
  have O2 : Hid (∀ W, Calls Try.prog 25 #[.int .i64 r.pr] W fun e w' => e = .returned (.int .i64 n2) ∧ W = w') := Lib.hid (fun W => by rw [← hn2]; exact Cnt.rmore_any _ W)
  have O3 : Hid (∀ W, Calls Try.prog 25 #[.int .i64 r.ex] W fun e w' => e = .returned (.int .i64 e1) ∧ W = w') := Lib.hid (fun W => by rw [← he1]; exact Cnt.rmore_any _ W)
  have LE : Hid (∀ W, Calls Try.prog 51 #[.agg p.cells.toArray, .int .i64 r.lf, .bool c.he] W fun e w' => e = .returned (.int .i64 l1) ∧ Below W.heap.size W w') := Lib.hid (fun W => by rw [← hl1]; exact Gap.rleft_any p _ _ W)
  have ID : Hid (∀ W, Calls Try.prog 50 #[.agg #[I r.fs, I r.ft]] W fun e w' => e = .returned (.bool i1) ∧ Below W.heap.size W w') := Lib.hid (fun W => by rw [← hi1]; exact Ped.idle_any _ _ W)
  have ID2 : Hid (∀ W, Calls Try.prog 50 #[.agg #[I a, I b]] W fun e w' => e = .returned (.bool i2) ∧ Below W.heap.size W w') := Lib.hid (fun W => by rw [← hi2]; exact Ped.idle_any _ _ W)
  have LM : Hid (∀ W, Calls Try.prog 21 #[.agg p.cells.toArray, .agg #[I r.tl, I r.tu, I r.td]] W fun e w' => e = .returned (.int .i64 lm1) ∧ Below W.heap.size W w') := Lib.hid (fun W => by rw [← hlm]; exact Gap.rlim_any p _ _ _ W)
  have HF := Lib.hid hf
  clear hf hn1 hn2 he1 hl1 hi1 hi2 hlm
  have hn0 := Blk.Bks.nil w
  have hn1 := hn0.alloc p.cells.toArray 23
  have hn2 := hn1.alloc (Ru.cells r).toArray 29
  rw [show (w.alloc (.cells p.cells.toArray 23)).heap.size = w.heap.size + 1 by simp] at hn2
  have hn3 := hn2.alloc c.cells.toArray 31
  rw [show ((w.alloc (.cells p.cells.toArray 23)).alloc (.cells (Ru.cells r).toArray 29)).heap.size = w.heap.size + 1 + 1 by simp] at hn3
  have hn4 := hn3.alloc #[I 0, I 0, I 0, I 0, I 0, I 0, I 0, .bool false, .bool false, I 0, I 0, I 0] 29
  rw [show (((w.alloc (.cells p.cells.toArray 23)).alloc (.cells (Ru.cells r).toArray 29)).alloc (.cells c.cells.toArray 31)).heap.size = w.heap.size + 1 + 1 + 1 by simp] at hn4
  clear hn0
  clear hn1
  clear hn2
  clear hn3
  go_enter Try.func24, Try.ntmps24
  go_upto_region 1 with fail
  generalize World.alloc (World.alloc (World.alloc (World.alloc w _) _) _) _ = v at hn4 ⊢
  generalize hg3 : w.heap.size + 1 + 1 + 1 = gz at hn4 ⊢
  generalize hg2 : w.heap.size + 1 + 1 = gc at hn4 ⊢
  generalize hg1 : w.heap.size + 1 = gr at hn4 ⊢
  generalize hg0 : w.heap.size = gp at hn4 ⊢
  clear hg0 hg1 hg2 hg3
  have H0 := Lib.hid hn4
  clear hn4
  go_upto_region 2 with (first | (refine Row.wpList_load_g 29 _ rfl (by first | rfl | (go_simp; done) | fail) ⟨gr, 0, none⟩ rfl r.cells _ (seg H0.out 2 0 rfl _ rfl) Try.underlying29 rfl infoRu ?_) | (refine Row.wpList_store_new rfl 29 _ _ rfl _ _ (Ru.cells r).toArray rfl rfl rfl infoRu rfl (one_ru _) ?_))
  have hn := H0.out.alloc (Ru.cells r).toArray 29
  generalize World.alloc v _ = v1 at hn ⊢
  generalize v.heap.size = gn at hn ⊢
  have H1 := Lib.hid hn
  clear hn
  clear H0
  rename_i K hK
  have HK := Lib.hid hK
  clear hK
  have t_rtm : v1.cell? ⟨gr, 1, none⟩ = some (I r.tm) := H1.out.cell 3 1 rfl rfl
  have n_tm : v1.cell? ⟨gn, 1, none⟩ = some (I r.tm) := H1.out.cell 0 1 rfl rfl
  have f_tm : v1.frozen? ⟨gn, 1, none⟩ = false := H1.out.frozen 0 1 rfl
  go_wp2_with (go_at_call 25; with_reducible refine (O1.out _).mono ?_; rintro e w' ⟨rfl, rfl⟩)
  have hput := H1.out.set 0 1 rfl (I n1)
  rw [show Array.setIfInBounds _ 1 (I n1) = (Ru.cells ⟨r.co, n1, r.fs, r.ft, r.lf, r.pr, r.ex, r.dn, r.mx, r.tl, r.tu, r.td⟩).toArray from rfl] at hput
  simp only [List.set_cons_succ, List.set_cons_zero] at hput
  generalize World.setCell v1 _ _ = v2 at hput ⊢
  have H2 := Lib.hid hput
  clear hput
  clear H1 t_rtm n_tm f_tm O1
  refine HK.out _ _ ?_
  clear HK K
  apply wp_seq_k
  intro K hK
  have HK := Lib.hid hK
  clear hK
  go_cut [] from 11 (fun wx => Blk.Bks w [(gn, (Ru.cells ⟨r.co, n1, a, b, r.lf, r.pr, r.ex, r.dn, r.mx, r.tl, r.tu, r.td⟩).toArray, 29), (gz, #[I 0, I 0, I 0, I 0, I 0, I 0, I 0, .bool false, .bool false, I 0, I 0, I 0], 29), (gc, c.cells.toArray, 31), (gr, r.cells.toArray, 29), (gp, p.cells.toArray, 23)] wx)
  case first =>
    have t_ckt : v2.cell? ⟨gc, 7, none⟩ = some (.bool c.kt) := H2.out.cell 2 7 rfl rfl
    have t_rfs : v2.cell? ⟨gr, 2, none⟩ = some (I r.fs) := H2.out.cell 3 2 rfl rfl
    have t_cpu : v2.cell? ⟨gc, 3, none⟩ = some (.bool c.pu) := H2.out.cell 2 3 rfl rfl
    have t_cps : v2.cell? ⟨gc, 4, none⟩ = some (.bool c.ps) := H2.out.cell 2 4 rfl rfl
    have hf := HF.out
    unfold fooA at hf
    obtain ⟨pu, hpu⟩ : ∃ x, c.pu = x := ⟨_, rfl⟩
    obtain ⟨ps, hps⟩ : ∃ x, c.ps = x := ⟨_, rfl⟩
    obtain ⟨kt, hkt⟩ : ∃ x, c.kt = x := ⟨_, rfl⟩
    obtain ⟨fs, hfs⟩ : ∃ x, r.fs = x := ⟨_, rfl⟩
    rw [hpu, hps, hkt, hfs] at hf
    rw [hpu] at t_cpu
    rw [hps] at t_cps
    rw [hkt] at t_ckt
    rw [hfs] at t_rfs
    cases kt
    · rw [if_neg (by simp)] at hf
      cases pu
      · replace hf : ft p.walk p.blinks fs r.ft false = ⟨a, b⟩ := hf
        have CU : Hid (∀ W, Calls Try.prog 26 #[.agg p.cells.toArray, .agg #[I fs, I r.ft], .bool false] W fun e w' => e = .returned (.agg #[I a, I b]) ∧ Below W.heap.size W w') := Lib.hid (fun W => Ped.foot_is hf W)
        clear hf
        go_wp2_with (first | (refine Row.wpList_load_g 23 _ rfl (by first | rfl | (go_simp; done) | fail) ⟨gp, 0, none⟩ rfl p.cells _ (seg H2.out 4 0 rfl _ rfl) Try.underlying23 rfl infoP ?_) | (refine Row.wpList_load_g 25 _ rfl (by first | rfl | (go_simp; done) | fail) ⟨gr, 2, none⟩ rfl [I fs, I r.ft] _ (seg H2.out 3 2 rfl _ (by first | rfl | (rw [← hfs]; rfl))) Try.underlying25 rfl infoFt ?_))
        refine (CU.out _).mono ?_
        rintro e v3 ⟨rfl, bc⟩
        have H3 := Lib.hid (H2.out.step bc)
        clear bc
        go_wp2_with (refine store_mid rfl 25 _ _ rfl gn 2 #[I a, I b] rfl rfl 29 _ (Ru.cells ⟨r.co, n1, a, b, r.lf, r.pr, r.ex, r.dn, r.mx, r.tl, r.tu, r.td⟩).toArray H3.out 0 rfl infoFt (by first | decide | (simp [Ru.cells]; done) | fail) (by simp [Value.oneCell']) rfl ?_)
        have hput := H3.out.put 0 rfl (Ru.cells ⟨r.co, n1, a, b, r.lf, r.pr, r.ex, r.dn, r.mx, r.tl, r.tu, r.td⟩).toArray
        simp only [List.set_cons_succ, List.set_cons_zero] at hput
        generalize World.setRow _ gn _ = v4 at hput ⊢
        have H4 := Lib.hid hput
        clear hput
        go_meet
        case rel => exact H4.out
      · cases ps
        · replace hf : ft p.walk p.blinks fs r.ft true = ⟨a, b⟩ := hf
          have CU : Hid (∀ W, Calls Try.prog 26 #[.agg p.cells.toArray, .agg #[I fs, I r.ft], .bool true] W fun e w' => e = .returned (.agg #[I a, I b]) ∧ Below W.heap.size W w') := Lib.hid (fun W => Ped.foot_is hf W)
          clear hf
          go_wp2_with (first | (refine Row.wpList_load_g 23 _ rfl (by first | rfl | (go_simp; done) | fail) ⟨gp, 0, none⟩ rfl p.cells _ (seg H2.out 4 0 rfl _ rfl) Try.underlying23 rfl infoP ?_) | (refine Row.wpList_load_g 25 _ rfl (by first | rfl | (go_simp; done) | fail) ⟨gr, 2, none⟩ rfl [I fs, I r.ft] _ (seg H2.out 3 2 rfl _ (by first | rfl | (rw [← hfs]; rfl))) Try.underlying25 rfl infoFt ?_))
          refine (CU.out _).mono ?_
          rintro e v3 ⟨rfl, bc⟩
          have H3 := Lib.hid (H2.out.step bc)
          clear bc
          go_wp2_with (refine store_mid rfl 25 _ _ rfl gn 2 #[I a, I b] rfl rfl 29 _ (Ru.cells ⟨r.co, n1, a, b, r.lf, r.pr, r.ex, r.dn, r.mx, r.tl, r.tu, r.td⟩).toArray H3.out 0 rfl infoFt (by first | decide | (simp [Ru.cells]; done) | fail) (by simp [Value.oneCell']) rfl ?_)
          have hput := H3.out.put 0 rfl (Ru.cells ⟨r.co, n1, a, b, r.lf, r.pr, r.ex, r.dn, r.mx, r.tl, r.tu, r.td⟩).toArray
          simp only [List.set_cons_succ, List.set_cons_zero] at hput
          generalize World.setRow _ gn _ = v4 at hput ⊢
          have H4 := Lib.hid hput
          clear hput
          go_meet
          case rel => exact H4.out
        · replace hf : ft p.walk p.blinks fs r.ft false = ⟨a, b⟩ := hf
          have CU : Hid (∀ W, Calls Try.prog 26 #[.agg p.cells.toArray, .agg #[I fs, I r.ft], .bool false] W fun e w' => e = .returned (.agg #[I a, I b]) ∧ Below W.heap.size W w') := Lib.hid (fun W => Ped.foot_is hf W)
          clear hf
          go_wp2_with (first | (refine Row.wpList_load_g 23 _ rfl (by first | rfl | (go_simp; done) | fail) ⟨gp, 0, none⟩ rfl p.cells _ (seg H2.out 4 0 rfl _ rfl) Try.underlying23 rfl infoP ?_) | (refine Row.wpList_load_g 25 _ rfl (by first | rfl | (go_simp; done) | fail) ⟨gr, 2, none⟩ rfl [I fs, I r.ft] _ (seg H2.out 3 2 rfl _ (by first | rfl | (rw [← hfs]; rfl))) Try.underlying25 rfl infoFt ?_))
          refine (CU.out _).mono ?_
          rintro e v3 ⟨rfl, bc⟩
          have H3 := Lib.hid (H2.out.step bc)
          clear bc
          go_wp2_with (refine store_mid rfl 25 _ _ rfl gn 2 #[I a, I b] rfl rfl 29 _ (Ru.cells ⟨r.co, n1, a, b, r.lf, r.pr, r.ex, r.dn, r.mx, r.tl, r.tu, r.td⟩).toArray H3.out 0 rfl infoFt (by first | decide | (simp [Ru.cells]; done) | fail) (by simp [Value.oneCell']) rfl ?_)
          have hput := H3.out.put 0 rfl (Ru.cells ⟨r.co, n1, a, b, r.lf, r.pr, r.ex, r.dn, r.mx, r.tl, r.tu, r.td⟩).toArray
          simp only [List.set_cons_succ, List.set_cons_zero] at hput
          generalize World.setRow _ gn _ = v4 at hput ⊢
          have H4 := Lib.hid hput
          clear hput
          go_meet
          case rel => exact H4.out
    by_cases h1 : fs = 1
    · subst h1
      rw [if_pos ⟨rfl, rfl⟩] at hf
      have CU : Hid (∀ W, Calls Try.prog 49 #[.agg #[I 1, I r.ft]] W fun e w' => e = .returned (.agg #[I a, I b]) ∧ Below W.heap.size W w') := Lib.hid (fun W => Ped.rcut_is hf W)
      clear hf
      go_wp2_with (first | (refine Row.wpList_load_g 25 _ rfl (by first | rfl | (go_simp; done) | fail) ⟨gr, 2, none⟩ rfl [I 1, I r.ft] _ (seg H2.out 3 2 rfl _ (by first | rfl | (rw [← hfs]; rfl))) Try.underlying25 rfl infoFt ?_))
      refine (CU.out _).mono ?_
      rintro e v3 ⟨rfl, bc⟩
      have H3 := Lib.hid (H2.out.step bc)
      clear bc
      go_wp2_with (refine store_mid rfl 25 _ _ rfl gn 2 #[I a, I b] rfl rfl 29 _ (Ru.cells ⟨r.co, n1, a, b, r.lf, r.pr, r.ex, r.dn, r.mx, r.tl, r.tu, r.td⟩).toArray H3.out 0 rfl infoFt (by first | decide | (simp [Ru.cells]; done) | fail) (by simp [Value.oneCell']) rfl ?_)
      have hput := H3.out.put 0 rfl (Ru.cells ⟨r.co, n1, a, b, r.lf, r.pr, r.ex, r.dn, r.mx, r.tl, r.tu, r.td⟩).toArray
      simp only [List.set_cons_succ, List.set_cons_zero] at hput
      generalize World.setRow _ gn _ = v4 at hput ⊢
      have H4 := Lib.hid hput
      clear hput
      go_meet
      case rel => exact H4.out
    have z1 : (fs == 1) = false := by rw [beq_eq_false_iff_ne]; exact h1
    rw [if_neg (fun h => h1 h.2)] at hf
    cases pu
    · replace hf : ft p.walk p.blinks fs r.ft false = ⟨a, b⟩ := hf
      have CU : Hid (∀ W, Calls Try.prog 26 #[.agg p.cells.toArray, .agg #[I fs, I r.ft], .bool false] W fun e w' => e = .returned (.agg #[I a, I b]) ∧ Below W.heap.size W w') := Lib.hid (fun W => Ped.foot_is hf W)
      clear hf
      go_wp2_with (first | (refine Row.wpList_load_g 23 _ rfl (by first | rfl | (go_simp; done) | fail) ⟨gp, 0, none⟩ rfl p.cells _ (seg H2.out 4 0 rfl _ rfl) Try.underlying23 rfl infoP ?_) | (refine Row.wpList_load_g 25 _ rfl (by first | rfl | (go_simp; done) | fail) ⟨gr, 2, none⟩ rfl [I fs, I r.ft] _ (seg H2.out 3 2 rfl _ (by first | rfl | (rw [← hfs]; rfl))) Try.underlying25 rfl infoFt ?_))
      refine (CU.out _).mono ?_
      rintro e v3 ⟨rfl, bc⟩
      have H3 := Lib.hid (H2.out.step bc)
      clear bc
      go_wp2_with (refine store_mid rfl 25 _ _ rfl gn 2 #[I a, I b] rfl rfl 29 _ (Ru.cells ⟨r.co, n1, a, b, r.lf, r.pr, r.ex, r.dn, r.mx, r.tl, r.tu, r.td⟩).toArray H3.out 0 rfl infoFt (by first | decide | (simp [Ru.cells]; done) | fail) (by simp [Value.oneCell']) rfl ?_)
      have hput := H3.out.put 0 rfl (Ru.cells ⟨r.co, n1, a, b, r.lf, r.pr, r.ex, r.dn, r.mx, r.tl, r.tu, r.td⟩).toArray
      simp only [List.set_cons_succ, List.set_cons_zero] at hput
      generalize World.setRow _ gn _ = v4 at hput ⊢
      have H4 := Lib.hid hput
      clear hput
      go_meet
      case rel => exact H4.out
    · cases ps
      · replace hf : ft p.walk p.blinks fs r.ft true = ⟨a, b⟩ := hf
        have CU : Hid (∀ W, Calls Try.prog 26 #[.agg p.cells.toArray, .agg #[I fs, I r.ft], .bool true] W fun e w' => e = .returned (.agg #[I a, I b]) ∧ Below W.heap.size W w') := Lib.hid (fun W => Ped.foot_is hf W)
        clear hf
        go_wp2_with (first | (refine Row.wpList_load_g 23 _ rfl (by first | rfl | (go_simp; done) | fail) ⟨gp, 0, none⟩ rfl p.cells _ (seg H2.out 4 0 rfl _ rfl) Try.underlying23 rfl infoP ?_) | (refine Row.wpList_load_g 25 _ rfl (by first | rfl | (go_simp; done) | fail) ⟨gr, 2, none⟩ rfl [I fs, I r.ft] _ (seg H2.out 3 2 rfl _ (by first | rfl | (rw [← hfs]; rfl))) Try.underlying25 rfl infoFt ?_))
        refine (CU.out _).mono ?_
        rintro e v3 ⟨rfl, bc⟩
        have H3 := Lib.hid (H2.out.step bc)
        clear bc
        go_wp2_with (refine store_mid rfl 25 _ _ rfl gn 2 #[I a, I b] rfl rfl 29 _ (Ru.cells ⟨r.co, n1, a, b, r.lf, r.pr, r.ex, r.dn, r.mx, r.tl, r.tu, r.td⟩).toArray H3.out 0 rfl infoFt (by first | decide | (simp [Ru.cells]; done) | fail) (by simp [Value.oneCell']) rfl ?_)
        have hput := H3.out.put 0 rfl (Ru.cells ⟨r.co, n1, a, b, r.lf, r.pr, r.ex, r.dn, r.mx, r.tl, r.tu, r.td⟩).toArray
        simp only [List.set_cons_succ, List.set_cons_zero] at hput
        generalize World.setRow _ gn _ = v4 at hput ⊢
        have H4 := Lib.hid hput
        clear hput
        go_meet
        case rel => exact H4.out
      · replace hf : ft p.walk p.blinks fs r.ft false = ⟨a, b⟩ := hf
        have CU : Hid (∀ W, Calls Try.prog 26 #[.agg p.cells.toArray, .agg #[I fs, I r.ft], .bool false] W fun e w' => e = .returned (.agg #[I a, I b]) ∧ Below W.heap.size W w') := Lib.hid (fun W => Ped.foot_is hf W)
        clear hf
        go_wp2_with (first | (refine Row.wpList_load_g 23 _ rfl (by first | rfl | (go_simp; done) | fail) ⟨gp, 0, none⟩ rfl p.cells _ (seg H2.out 4 0 rfl _ rfl) Try.underlying23 rfl infoP ?_) | (refine Row.wpList_load_g 25 _ rfl (by first | rfl | (go_simp; done) | fail) ⟨gr, 2, none⟩ rfl [I fs, I r.ft] _ (seg H2.out 3 2 rfl _ (by first | rfl | (rw [← hfs]; rfl))) Try.underlying25 rfl infoFt ?_))
        refine (CU.out _).mono ?_
        rintro e v3 ⟨rfl, bc⟩
        have H3 := Lib.hid (H2.out.step bc)
        clear bc
        go_wp2_with (refine store_mid rfl 25 _ _ rfl gn 2 #[I a, I b] rfl rfl 29 _ (Ru.cells ⟨r.co, n1, a, b, r.lf, r.pr, r.ex, r.dn, r.mx, r.tl, r.tu, r.td⟩).toArray H3.out 0 rfl infoFt (by first | decide | (simp [Ru.cells]; done) | fail) (by simp [Value.oneCell']) rfl ?_)
        have hput := H3.out.put 0 rfl (Ru.cells ⟨r.co, n1, a, b, r.lf, r.pr, r.ex, r.dn, r.mx, r.tl, r.tu, r.td⟩).toArray
        simp only [List.set_cons_succ, List.set_cons_zero] at hput
        generalize World.setRow _ gn _ = v4 at hput ⊢
        have H4 := Lib.hid hput
        clear hput
        go_meet
        case rel => exact H4.out
  case rest =>
  have H5 := Lib.hid hcut
  clear hcut
  rename World => v5
  clear H2 HF
  refine HK.out _ _ ?_
  clear HK K
  apply wp_seq_k
  intro K hK
  have HK := Lib.hid hK
  clear hK
  go_cut [] from 11 (fun wx => Blk.Bks w [(gn, (Ru.cells ⟨r.co, n1, a, b, r.lf, r.pr, r.ex, dn1, mx1, r.tl, r.tu, r.td⟩).toArray, 29), (gz, #[I 0, I 0, I 0, I 0, I 0, I 0, I 0, .bool false, .bool false, I 0, I 0, I 0], 29), (gc, c.cells.toArray, 31), (gr, r.cells.toArray, 29), (gp, p.cells.toArray, 23)] wx)
  case first =>
    go_wp2_with (refine Row.wpList_load_g 25 _ rfl (by first | rfl | (go_simp; done) | fail) ⟨gr, 2, none⟩ rfl [I r.fs, I r.ft] _ (seg H5.out 3 2 rfl _ rfl) Try.underlying25 rfl infoFt ?_)
    refine (ID.out _).mono ?_
    rintro e v6 ⟨rfl, bc⟩
    have H6 := Lib.hid (H5.out.step bc)
    clear bc
    cases i1
    · have e1 : dn1 = r.dn := by rw [← HN.out]; simp
      have e2 : mx1 = r.mx := by rw [← HM.out]; simp
      go_wp2_with fail
      go_meet
      case rel => rw [e1, e2]; exact H6.out
    have n_fs : v6.cell? ⟨gn, 2, none⟩ = some (I a) := H6.out.cell 0 2 rfl rfl
    by_cases h1 : a = 1
    rotate_left
    · have z1 : (a == 1) = false := by rw [beq_eq_false_iff_ne]; exact h1
      have e1 : dn1 = r.dn := by rw [← HN.out]; simp [h1]
      have e2 : mx1 = r.mx := by rw [← HM.out]; simp [h1]
      go_wp2_with fail
      go_meet
      case rel => rw [e1, e2]; exact H6.out
    have z1 : (a == 1) = true := by rw [beq_iff_eq]; exact h1
    have e1 : dn1 = false := by rw [← HN.out]; simp [h1]
    have e2 : mx1 = false := by rw [← HM.out]; simp [h1]
    clear h1
    have n_dn : v6.cell? ⟨gn, 7, none⟩ = some (.bool r.dn) := H6.out.cell 0 7 rfl rfl
    have f_dn : v6.frozen? ⟨gn, 7, none⟩ = false := H6.out.frozen 0 7 rfl
    have n_mx : v6.cell? ⟨gn, 8, none⟩ = some (.bool r.mx) := H6.out.cell 0 8 rfl rfl
    have f_mx : v6.frozen? ⟨gn, 8, none⟩ = false := H6.out.frozen 0 8 rfl
    go_wp2_with fail
    have hput := (H6.out.set 0 7 rfl (.bool false)).set 0 8 rfl (.bool false)
    rw [show Array.setIfInBounds (Array.setIfInBounds _ 7 (.bool false)) 8 (.bool false) = (Ru.cells ⟨r.co, n1, a, b, r.lf, r.pr, r.ex, false, false, r.tl, r.tu, r.td⟩).toArray from rfl] at hput
    simp only [List.set_cons_succ, List.set_cons_zero] at hput
    generalize World.setCell (World.setCell v6 _ _) _ _ = v9 at hput ⊢
    go_meet
    case rel => rw [e1, e2]; exact hput
  case rest =>
  have H7 := Lib.hid hcut
  clear hcut
  rename World => v7
  clear H5 ID
  refine HK.out _ _ ?_
  clear HK K
  go_upto_region 9 with fail
  rename_i K hK
  have HK := Lib.hid hK
  clear hK
  have t_rlf : v7.cell? ⟨gr, 4, none⟩ = some (I r.lf) := H7.out.cell 3 4 rfl rfl
  have t_che : v7.cell? ⟨gc, 2, none⟩ = some (.bool c.he) := H7.out.cell 2 2 rfl rfl
  go_wp2_with (refine Row.wpList_load_g 23 _ rfl (by first | rfl | (go_simp; done) | fail) ⟨gp, 0, none⟩ rfl p.cells _ (seg H7.out 4 0 rfl _ rfl) Try.underlying23 rfl infoP ?_)
  refine (LE.out _).mono ?_
  rintro e v8 ⟨rfl, bc⟩
  have H8 := Lib.hid (H7.out.step bc)
  clear bc
  clear H7 LE t_rlf t_che
  have n_lf : v8.cell? ⟨gn, 4, none⟩ = some (I r.lf) := H8.out.cell 0 4 rfl rfl
  have f_lf : v8.frozen? ⟨gn, 4, none⟩ = false := H8.out.frozen 0 4 rfl
  go_wp2_with fail
  have hput := H8.out.set 0 4 rfl (I l1)
  rw [show Array.setIfInBounds _ 4 (I l1) = (Ru.cells ⟨r.co, n1, a, b, l1, r.pr, r.ex, dn1, mx1, r.tl, r.tu, r.td⟩).toArray from rfl] at hput
  simp only [List.set_cons_succ, List.set_cons_zero] at hput
  generalize World.setCell v8 _ _ = v9 at hput ⊢
  have H9 := Lib.hid hput
  clear hput
  clear H8 n_lf f_lf
  refine HK.out _ _ ?_
  clear HK K
  apply wp_seq_k
  intro K hK
  have HK := Lib.hid hK
  clear hK
  go_cut [] from 11 (fun wx => Blk.Bks w [(gn, (Ru.cells ⟨r.co, n1, a, b, l1, pr1, r.ex, dn1, mx1, r.tl, r.tu, r.td⟩).toArray, 29), (gz, #[I 0, I 0, I 0, I 0, I 0, I 0, I 0, .bool false, .bool false, I 0, I 0, I 0], 29), (gc, c.cells.toArray, 31), (gr, r.cells.toArray, 29), (gp, p.cells.toArray, 23)] wx)
  case first =>
    have t_cps : v9.cell? ⟨gc, 4, none⟩ = some (.bool c.ps) := H9.out.cell 2 4 rfl rfl
    have t_rpr : v9.cell? ⟨gr, 5, none⟩ = some (I r.pr) := H9.out.cell 3 5 rfl rfl
    obtain ⟨ps, hps⟩ : ∃ x, c.ps = x := ⟨_, rfl⟩
    rw [hps] at t_cps
    cases ps
    · have e1 : pr1 = r.pr := by rw [← HP1.out, hps]; rfl
      clear hps
      go_wp2_with fail
      go_meet
      case rel => rw [e1]; exact H9.out
    have e1 : pr1 = n2 := by rw [← HP1.out, hps]; rfl
    clear hps
    have n_pr : v9.cell? ⟨gn, 5, none⟩ = some (I r.pr) := H9.out.cell 0 5 rfl rfl
    have f_pr : v9.frozen? ⟨gn, 5, none⟩ = false := H9.out.frozen 0 5 rfl
    go_wp2_with (go_at_call 25; with_reducible refine (O2.out _).mono ?_; rintro e w' ⟨rfl, rfl⟩)
    have hput := H9.out.set 0 5 rfl (I n2)
    rw [show Array.setIfInBounds _ 5 (I n2) = (Ru.cells ⟨r.co, n1, a, b, l1, n2, r.ex, dn1, mx1, r.tl, r.tu, r.td⟩).toArray from rfl] at hput
    simp only [List.set_cons_succ, List.set_cons_zero] at hput
    generalize World.setCell v9 _ _ = va at hput ⊢
    have HA := Lib.hid hput
    clear hput
    go_meet
    case rel => rw [e1]; exact HA.out
  case rest =>
  have HB := Lib.hid hcut
  clear hcut
  rename World => vb
  clear H9 O2
  refine HK.out _ _ ?_
  clear HK K
  go_upto_region 12 with fail
  (try dsimp only [Act.put])
  have q1 : ∀ q : QB.By vb.heap.size vb, q.world.cell? ⟨gn, 5, none⟩ = some (I pr1) := fun q => (HB.out.by q).cell 0 5 rfl rfl
  refine QB.region_below vb.heap.size (by kernel_rfl) (by kernel_rfl) ?_
  repeat first
    | (refine wpQuiet_load rfl 23 _ rfl ⟨gp, 0, none⟩ rfl p.cells _ (fun w' ⟨pw, e⟩ => by rw [e]; exact seg (HB.out.by pw) 4 0 rfl _ rfl) Try.underlying23 rfl infoP ?_
       dsimp only [Act.put]
       simp only [List.setIfInBounds_toArray, List.set_cons_zero, List.set_cons_succ])
    | (refine wpQuiet_load rfl 27 _ rfl ⟨gr, 9, none⟩ rfl [I r.tl, I r.tu, I r.td] _ (fun w' ⟨pw, e⟩ => by rw [e]; exact seg (HB.out.by pw) 3 9 rfl _ rfl) Try.underlying27 rfl infoTn ?_
       dsimp only [Act.put]
       simp only [List.setIfInBounds_toArray, List.set_cons_zero, List.set_cons_succ])
    | ((quiet_step (first | (go_at_call 21; with_reducible exact QB.call_of (Nat.le_refl _) (fun b => LM.out _)))))
  refine wpQuiet_nil ?_
  intro _ hw'
  obtain ⟨pq, rfl⟩ := hw'
  have HP := Lib.hid (HB.out.by pq)
  clear q1 HB LM
  generalize pq.world = vc at HP ⊢
  have eL : decide (lm1 ≤ pr1) = lng := HL.out
  go_upto_region 13 with fail
  (try simp only [ge_iff_le])
  rw [eL]
  clear eL
  rename_i K hK
  have HK := Lib.hid hK
  clear hK
  go_cut [10] from 11 (fun t10 wx => t10 = .bool du ∧ Blk.Bks w [(gn, (Ru.cells ⟨r.co, n1, a, b, l1, pr1, r.ex, dn1, mx1, r.tl, r.tu, r.td⟩).toArray, 29), (gz, #[I 0, I 0, I 0, I 0, I 0, I 0, I 0, .bool false, .bool false, I 0, I 0, I 0], 29), (gc, c.cells.toArray, 31), (gr, r.cells.toArray, 29), (gp, p.cells.toArray, 23)] wx)
  case first =>
    have t_cps : vc.cell? ⟨gc, 4, none⟩ = some (.bool c.ps) := HP.out.cell 2 4 rfl rfl
    have t_pmin : vc.cell? ⟨gp, 1, none⟩ = some (I p.min) := HP.out.cell 4 1 rfl rfl
    have t_cea : vc.cell? ⟨gc, 6, none⟩ = some (.bool c.ea) := HP.out.cell 2 6 rfl rfl
    have n_tm : vc.cell? ⟨gn, 1, none⟩ = some (I n1) := HP.out.cell 0 1 rfl rfl
    have n_dn : vc.cell? ⟨gn, 7, none⟩ = some (.bool dn1) := HP.out.cell 0 7 rfl rfl
    have n_lf : vc.cell? ⟨gn, 4, none⟩ = some (I l1) := HP.out.cell 0 4 rfl rfl
    have hd := HDU.out
    obtain ⟨ps, hps⟩ : ∃ x, c.ps = x := ⟨_, rfl⟩
    obtain ⟨ea, hea⟩ : ∃ x, c.ea = x := ⟨_, rfl⟩
    obtain ⟨mi, hmi⟩ : ∃ x, p.min = x := ⟨_, rfl⟩
    rw [hps, hea, hmi] at hd
    rw [hps] at t_cps
    rw [hmi] at t_pmin
    rw [hea] at t_cea
    cases ps
    · have e1 : du = false := by rw [← hd]; clear hd; simp [*]
      clear hd
      go_wp2_with fail
      go_meet
      case rel => exact ⟨by rw [e1], HP.out⟩
    cases dn1
    rotate_left
    · have e1 : du = false := by rw [← hd]; clear hd; simp [*]
      clear hd
      go_wp2_with fail
      go_meet
      case rel => exact ⟨by rw [e1], HP.out⟩
    by_cases h1 : mi ≤ n1
    rotate_left
    · have e1 : du = false := by rw [← hd]; clear hd; simp [*]
      clear hd
      go_wp2_with fail
      go_meet
      case rel => exact ⟨by rw [e1], HP.out⟩
    go_wp2_with (refine Row.wpList_load_g 25 _ rfl (by first | rfl | (go_simp; done) | fail) ⟨gn, 2, none⟩ rfl [I a, I b] _ (seg HP.out 0 2 rfl _ rfl) Try.underlying25 rfl infoFt ?_)
    refine (ID2.out _).mono ?_
    rintro e vd ⟨rfl, bc⟩
    have HQ := Lib.hid (HP.out.step bc)
    clear bc
    clear t_cps t_pmin t_cea n_tm n_dn n_lf
    have t_cea : vd.cell? ⟨gc, 6, none⟩ = some (.bool c.ea) := HQ.out.cell 2 6 rfl rfl
    have n_lf : vd.cell? ⟨gn, 4, none⟩ = some (I l1) := HQ.out.cell 0 4 rfl rfl
    rw [hea] at t_cea
    cases i2
    · have e1 : du = false := by rw [← hd]; clear hd; simp [*]
      clear hd
      go_wp2_with fail
      go_meet
      case rel => exact ⟨by rw [e1], HQ.out⟩
    by_cases h2 : l1 = 0
    · have z2 : (l1 == 0) = true := by rw [beq_iff_eq]; exact h2
      have e1 : du = true := by rw [← hd]; clear hd; simp [*]
      clear hd
      go_wp2_with fail
      go_meet
      case rel => exact ⟨by rw [e1], HQ.out⟩
    have z2 : (l1 == 0) = false := by rw [beq_eq_false_iff_ne]; exact h2
    cases lng
    · cases ea
      · have e1 : du = false := by rw [← hd]; clear hd; simp [*]
        clear hd
        go_wp2_with fail
        go_meet
        case rel => exact ⟨by rw [e1], HQ.out⟩
      · have e1 : du = true := by rw [← hd]; clear hd; simp [*]
        clear hd
        go_wp2_with fail
        go_meet
        case rel => exact ⟨by rw [e1], HQ.out⟩
    · have e1 : du = true := by rw [← hd]; clear hd; simp [*]
      clear hd
      go_wp2_with fail
      go_meet
      case rel => exact ⟨by rw [e1], HQ.out⟩
  case rest =>
  obtain ⟨rfl, hcut⟩ := hcut
  have HE := Lib.hid hcut
  clear hcut
  rename World => ve
  clear HP ID2
  refine HK.out _ _ ?_
  clear HK K
  apply wp_seq_k
  intro K hK
  have HK := Lib.hid hK
  clear hK
  go_cut [] from 11 (fun wx => Blk.Bks w [(gn, (Ru.cells ⟨r.co, n1, a, b, l1, pr1, ex1, dn1, mx1, r.tl, r.tu, r.td⟩).toArray, 29), (gz, #[I 0, I 0, I 0, I 0, I 0, I 0, I 0, .bool false, .bool false, I 0, I 0, I 0], 29), (gc, c.cells.toArray, 31), (gr, r.cells.toArray, 29), (gp, p.cells.toArray, 23)] wx)
  case first =>
    have t_cho : ve.cell? ⟨gc, 5, none⟩ = some (.bool c.ho) := HE.out.cell 2 5 rfl rfl
    have t_rex : ve.cell? ⟨gr, 6, none⟩ = some (I r.ex) := HE.out.cell 3 6 rfl rfl
    have hx := HEX.out
    obtain ⟨ho, hho⟩ : ∃ x, c.ho = x := ⟨_, rfl⟩
    rw [hho] at hx t_cho
    cases du
    · have e1 : ex1 = r.ex := by rw [← hx]; simp
      clear hx
      go_wp2_with fail
      go_meet
      case rel => rw [e1]; exact HE.out
    cases ho
    · have e1 : ex1 = r.ex := by rw [← hx]; simp
      clear hx
      go_wp2_with fail
      go_meet
      case rel => rw [e1]; exact HE.out
    have e2 : ex1 = e1 := by rw [← hx]; simp
    clear hx
    have n_ex : ve.cell? ⟨gn, 6, none⟩ = some (I r.ex) := HE.out.cell 0 6 rfl rfl
    have f_ex : ve.frozen? ⟨gn, 6, none⟩ = false := HE.out.frozen 0 6 rfl
    go_wp2_with (go_at_call 25; with_reducible refine (O3.out _).mono ?_; rintro e w' ⟨rfl, rfl⟩)
    have hput := HE.out.set 0 6 rfl (I e1)
    rw [show Array.setIfInBounds _ 6 (I e1) = (Ru.cells ⟨r.co, n1, a, b, l1, pr1, e1, dn1, mx1, r.tl, r.tu, r.td⟩).toArray from rfl] at hput
    simp only [List.set_cons_succ, List.set_cons_zero] at hput
    generalize World.setCell ve _ _ = vf at hput ⊢
    have HG := Lib.hid hput
    clear hput
    go_meet
    case rel => rw [e2]; exact HG.out
  case rest =>
  have HG := Lib.hid hcut
  clear hcut
  rename World => vg
  clear HE O3
  refine HK.out _ _ ?_
  clear HK K
  apply wp_seq_k
  intro K hK
  have HK := Lib.hid hK
  clear hK
  go_cut [] from 11 (fun wx => Blk.Bks w [(gn, (Ru.cells ⟨r.co, n1, a, b, l1, pr1, ex1, dn2, mx2, r.tl, r.tu, r.td⟩).toArray, 29), (gz, #[I 0, I 0, I 0, I 0, I 0, I 0, I 0, .bool false, .bool false, I 0, I 0, I 0], 29), (gc, c.cells.toArray, 31), (gr, r.cells.toArray, 29), (gp, p.cells.toArray, 23)] wx)
  case first =>
    have t_cho : vg.cell? ⟨gc, 5, none⟩ = some (.bool c.ho) := HG.out.cell 2 5 rfl rfl
    have hx := HN2.out
    have hy := HM2.out
    obtain ⟨ho, hho⟩ : ∃ x, c.ho = x := ⟨_, rfl⟩
    rw [hho] at hx hy t_cho
    cases du
    · have e1 : dn2 = dn1 := by rw [← hx]; simp
      have e2 : mx2 = mx1 := by rw [← hy]; simp
      clear hx hy
      go_wp2_with fail
      go_meet
      case rel => rw [e1, e2]; exact HG.out
    cases ho
    rotate_left
    · have e1 : dn2 = dn1 := by rw [← hx]; simp
      have e2 : mx2 = mx1 := by rw [← hy]; simp
      clear hx hy
      go_wp2_with fail
      go_meet
      case rel => rw [e1, e2]; exact HG.out
    have n_dn : vg.cell? ⟨gn, 7, none⟩ = some (.bool dn1) := HG.out.cell 0 7 rfl rfl
    have f_dn : vg.frozen? ⟨gn, 7, none⟩ = false := HG.out.frozen 0 7 rfl
    have n_mx : vg.cell? ⟨gn, 8, none⟩ = some (.bool mx1) := HG.out.cell 0 8 rfl rfl
    have f_mx : vg.frozen? ⟨gn, 8, none⟩ = false := HG.out.frozen 0 8 rfl
    have n_lf : vg.cell? ⟨gn, 4, none⟩ = some (I l1) := HG.out.cell 0 4 rfl rfl
    by_cases h1 : 0 < l1
    · have e1 : dn2 = true := by rw [← hx]; simp
      have e2 : mx2 = lng := by rw [← hy]; simp [h1]
      clear hx hy
      go_wp2_with fail
      have hput := (HG.out.set 0 7 rfl (.bool true)).set 0 8 rfl (.bool lng)
      rw [show Array.setIfInBounds (Array.setIfInBounds _ 7 (.bool true)) 8 (.bool lng) = (Ru.cells ⟨r.co, n1, a, b, l1, pr1, ex1, true, lng, r.tl, r.tu, r.td⟩).toArray from rfl] at hput
      simp only [List.set_cons_succ, List.set_cons_zero] at hput
      generalize World.setCell (World.setCell vg _ _) _ _ = vh at hput ⊢
      go_meet
      case rel => rw [e1, e2]; exact hput
    · have e1 : dn2 = true := by rw [← hx]; simp
      have e2 : mx2 = false := by rw [← hy]; simp [h1]
      clear hx hy
      go_wp2_with fail
      have hput := (HG.out.set 0 7 rfl (.bool true)).set 0 8 rfl (.bool false)
      rw [show Array.setIfInBounds (Array.setIfInBounds _ 7 (.bool true)) 8 (.bool false) = (Ru.cells ⟨r.co, n1, a, b, l1, pr1, ex1, true, false, r.tl, r.tu, r.td⟩).toArray from rfl] at hput
      simp only [List.set_cons_succ, List.set_cons_zero] at hput
      generalize World.setCell (World.setCell vg _ _) _ _ = vh at hput ⊢
      go_meet
      case rel => rw [e1, e2]; exact hput
  case rest =>
  have HI := Lib.hid hcut
  clear hcut
  rename World => vi
  clear HG
  refine HK.out _ _ ?_
  clear HK K
  go_wp2_with (first | (refine Row.wpList_load_g 29 _ rfl (by first | rfl | (go_simp; done) | fail) ⟨gn, 0, none⟩ rfl (Ru.cells ⟨r.co, n1, a, b, l1, pr1, ex1, dn2, mx2, r.tl, r.tu, r.td⟩) _ (seg HI.out 0 0 rfl _ rfl) Try.underlying29 rfl infoRu ?_) | (refine wpList_store_row rfl 29 _ _ rfl gz (Ru.cells ⟨r.co, n1, a, b, l1, pr1, ex1, dn2, mx2, r.tl, r.tu, r.td⟩).toArray rfl rfl 29 _ (HI.out.at 1 rfl) infoRu rfl (one_ru _) ?_))
  have hput := HI.out.put 1 rfl (Ru.cells ⟨r.co, n1, a, b, l1, pr1, ex1, dn2, mx2, r.tl, r.tu, r.td⟩).toArray
  simp only [List.set_cons_succ, List.set_cons_zero] at hput
  generalize World.setRow vi gz _ = vz at hput ⊢
  have HZ := Lib.hid hput
  clear hput
  (try go_wp2_with fail)
  (try simp only [Exit.inBlock, Exit.then])
  refine bodyPost_ret (v := .tuple #[.agg (Ru.cells ⟨r.co, n1, a, b, l1, pr1, ex1, dn2, mx2, r.tl, r.tu, r.td⟩).toArray, .bool du]) ?_ rfl ⟨rfl, HZ.out.bel⟩
  exact Where.results_row_tmp (fn := Try.f24) (p := 6) (u := 7) (ty := 29) rfl _ _ gz 29 _ (0, 0) _ rfl (HZ.out.at 1 rfl) Try.underlying29 rfl infoRu
end Go.Proofs.Ytbpfknkbiaplpaa.Ru
