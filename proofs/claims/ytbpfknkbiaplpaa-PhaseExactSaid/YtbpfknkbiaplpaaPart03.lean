/- 13 texts in one file, in build order. -/
import Derived.Test.YtbpfknkbiaplpaaPart02
import Derived.Test.YtbpfknkbiaplpaaPart01
import Derived.OwnWalk
import Derived.Test.YtbpfknkbiaplpaaRows
import Derived.Deep.Cut
import Derived.Laws.CopyOwn
import Derived.LoopTactic
set_option linter.unusedVariables false
set_option linter.unusedSimpArgs false
set_option linter.unusedSectionVars false
set_option maxHeartbeats 8000000
set_option maxRecDepth 100000
namespace Go.Proofs.Ytbpfknkbiaplpaa
namespace Ru
open Go Go.ChangeShapes Go.WideShapes Go.ChangeAt Go.RowKit
open Tab Flat TabArg QL
open May (infoP)
open Ped (ft cu idl Ft infoFt)
open Gap (lm lf gr Tn infoTn)
theorem longer_any (p : Ph) (r : Ru) (c : Cu) (w : World) : Calls Try.prog 28 #[.agg (tuC p r c).toArray] w fun e w' => e = .returned (.agg (Ru.cells (lon p r c)).toArray) ∧ Below w.heap.size w w' := by
  obtain ⟨n1, hn1⟩ : ∃ x, Cnt.more r.tm = x := ⟨_, rfl⟩
  obtain ⟨⟨a, b⟩, hf⟩ : ∃ x, fooA p r c = x := ⟨_, rfl⟩
  obtain ⟨l1, hl1⟩ : ∃ x, lf p.gap r.lf c.he = x := ⟨_, rfl⟩
  obtain ⟨n2, hn2⟩ : ∃ x, Cnt.more r.pr = x := ⟨_, rfl⟩
  obtain ⟨i1, hi1⟩ : ∃ x, idl r.fs = x := ⟨_, rfl⟩
  have HE : Hid (lon p r c = ⟨r.co, n1, a, b, l1, if c.ps then n2 else r.pr, r.ex, r.dn && !(i1 && decide (a = 1)), r.mx && !(i1 && decide (a = 1)), r.tl, r.tu, r.td⟩) := Lib.hid (by unfold lon beg; rw [hn1, hf, hl1, hn2, hi1])
  obtain ⟨ps, hps⟩ : ∃ x, c.ps = x := ⟨_, rfl⟩
  rw [hps] at HE
  have O1 : Hid (∀ W, Calls Try.prog 55 #[.int .i64 r.tm] W fun e w' => e = .returned (.int .i64 n1) ∧ W = w') := Lib.hid (fun W => by rw [← hn1]; exact oneMore_any _ W)
  have O2 : Hid (∀ W, Calls Try.prog 55 #[.int .i64 r.pr] W fun e w' => e = .returned (.int .i64 n2) ∧ W = w') := Lib.hid (fun W => by rw [← hn2]; exact oneMore_any _ W)
  have FO : Hid (∀ W, Calls Try.prog 56 #[.agg (tuC p r c).toArray] W fun e w' => e = .returned (.agg #[I a, I b]) ∧ Below W.heap.size W w') := Lib.hid (fun W => by have := foot_any p r c W; rwa [hf] at this)
  have LE : Hid (∀ W, Calls Try.prog 57 #[.agg p.cells.toArray, .int .i64 r.lf, .bool c.he] W fun e w' => e = .returned (.int .i64 l1) ∧ Below W.heap.size W w') := Lib.hid (fun W => by rw [← hl1]; exact Gap.left_any p _ _ W)
  have SD : Hid (∀ W, Calls Try.prog 53 #[.agg #[I r.fs, I r.ft]] W fun e w' => e = .returned (.bool i1) ∧ Below W.heap.size W w') := Lib.hid (fun W => by rw [← hi1]; exact stands_any _ _ W)
  clear hn1 hf hl1 hn2 hi1
  have hn0 := Blk.Bks.nil w
  have hn1 := hn0.alloc (tuC p r c).toArray 57
  have hn2 := hn1.alloc #[I 0, I 0, I 0, I 0, I 0, I 0, I 0, .bool false, .bool false, I 0, I 0, I 0] 29
  rw [show (w.alloc (.cells (tuC p r c).toArray 57)).heap.size = w.heap.size + 1 by simp] at hn2
  clear hn0
  clear hn1
  go_enter Try.func28, Try.ntmps28
  go_upto_region 1 with fail
  generalize World.alloc (World.alloc w _) _ = v at hn2 ⊢
  generalize hg1 : w.heap.size + 1 = gz at hn2 ⊢
  generalize hg0 : w.heap.size = gt at hn2 ⊢
  clear hg0 hg1
  have H0 := Lib.hid hn2
  clear hn2
  go_upto_region 2 with (first | (refine Row.wpList_load_g 29 _ rfl (by first | rfl | (go_simp; done) | fail) ⟨gt, 13, none⟩ rfl r.cells _ (seg H0.out 1 13 rfl _ rfl) Try.underlying29 rfl infoRu ?_) | (refine Row.wpList_store_new rfl 29 _ _ rfl _ _ (Ru.cells r).toArray rfl rfl rfl infoRu rfl (one_ru _) ?_))
  have hn := H0.out.alloc (Ru.cells r).toArray 29
  generalize World.alloc v _ = v1 at hn ⊢
  generalize v.heap.size = gn at hn ⊢
  have H1 := Lib.hid hn
  clear hn
  clear H0
  have t_rtm : v1.cell? ⟨gt, 14, none⟩ = some (I r.tm) := H1.out.cell 2 14 rfl rfl
  have n_tm : v1.cell? ⟨gn, 1, none⟩ = some (I r.tm) := H1.out.cell 0 1 rfl rfl
  have f_tm : v1.frozen? ⟨gn, 1, none⟩ = false := H1.out.frozen 0 1 rfl
  go_upto_region 3 with (go_at_call 55; with_reducible refine (O1.out _).mono ?_; rintro e w' ⟨rfl, rfl⟩)
  have hput := H1.out.set 0 1 rfl (I n1)
  rw [show Array.setIfInBounds _ 1 (I n1) = (Ru.cells ⟨r.co, n1, r.fs, r.ft, r.lf, r.pr, r.ex, r.dn, r.mx, r.tl, r.tu, r.td⟩).toArray from rfl] at hput
  simp only [List.set_cons_succ, List.set_cons_zero] at hput
  generalize World.setCell v1 _ _ = v2 at hput ⊢
  have H2 := Lib.hid hput
  clear hput
  clear H1 t_rtm n_tm f_tm
  go_wp2_with (refine Row.wpList_load_g 57 _ rfl (by first | rfl | (go_simp; done) | fail) ⟨gt, 0, none⟩ rfl (tuC p r c) _ (seg H2.out 2 0 rfl _ rfl) Try.underlying57 rfl infoTu ?_)
  refine (FO.out _).mono ?_
  rintro e v3 ⟨rfl, bc⟩
  have H3 := Lib.hid (H2.out.step bc)
  clear bc
  go_upto_region 4 with (refine store_mid rfl 25 _ _ rfl gn 2 #[I a, I b] rfl rfl 29 _ (Ru.cells ⟨r.co, n1, a, b, r.lf, r.pr, r.ex, r.dn, r.mx, r.tl, r.tu, r.td⟩).toArray H3.out 0 rfl infoFt (by first | decide | (simp [Ru.cells]; done) | fail) (by simp [Value.oneCell']) rfl ?_)
  have hput := H3.out.put 0 rfl (Ru.cells ⟨r.co, n1, a, b, r.lf, r.pr, r.ex, r.dn, r.mx, r.tl, r.tu, r.td⟩).toArray
  simp only [List.set_cons_succ, List.set_cons_zero] at hput
  generalize World.setRow _ gn _ = v4 at hput ⊢
  have H4 := Lib.hid hput
  clear hput
  clear H2 H3 FO
  have t_rlf : v4.cell? ⟨gt, 17, none⟩ = some (I r.lf) := H4.out.cell 2 17 rfl rfl
  have t_che : v4.cell? ⟨gt, 27, none⟩ = some (.bool c.he) := H4.out.cell 2 27 rfl rfl
  go_wp2_with (refine Row.wpList_load_g 23 _ rfl (by first | rfl | (go_simp; done) | fail) ⟨gt, 0, none⟩ rfl p.cells _ (seg H4.out 2 0 rfl _ rfl) Try.underlying23 rfl infoP ?_)
  refine (LE.out _).mono ?_
  rintro e v5 ⟨rfl, bc⟩
  have H5 := Lib.hid (H4.out.step bc)
  clear bc
  clear t_rlf t_che
  have n_lf : v5.cell? ⟨gn, 4, none⟩ = some (I r.lf) := H5.out.cell 0 4 rfl rfl
  have f_lf : v5.frozen? ⟨gn, 4, none⟩ = false := H5.out.frozen 0 4 rfl
  go_upto_region 5 with fail
  have hput := H5.out.set 0 4 rfl (I l1)
  rw [show Array.setIfInBounds _ 4 (I l1) = (Ru.cells ⟨r.co, n1, a, b, l1, r.pr, r.ex, r.dn, r.mx, r.tl, r.tu, r.td⟩).toArray from rfl] at hput
  simp only [List.set_cons_succ, List.set_cons_zero] at hput
  generalize World.setCell v5 _ _ = v6 at hput ⊢
  have H6 := Lib.hid hput
  clear hput
  clear H4 H5 LE n_lf f_lf
  have t_cps : v6.cell? ⟨gt, 29, none⟩ = some (.bool c.ps) := H6.out.cell 2 29 rfl rfl
  rw [hps] at t_cps
  cases ps
  · replace HE : Hid (lon p r c = _) := Lib.hid (HE.out.trans (by rw [if_neg (by simp)]))
    go_upto_region 7 with fail
    (try clear t_cps)
    go_wp2_with (refine Row.wpList_load_g 25 _ rfl (by first | rfl | (go_simp; done) | fail) ⟨gt, 15, none⟩ rfl [I r.fs, I r.ft] _ (seg H6.out 2 15 rfl _ rfl) Try.underlying25 rfl infoFt ?_)
    refine (SD.out _).mono ?_
    rintro e v8 ⟨rfl, bc⟩
    have H8 := Lib.hid (H6.out.step bc)
    clear bc
    cases i1
    · replace HE : Hid (lon p r c = ⟨r.co, n1, a, b, l1, r.pr, r.ex, r.dn, r.mx, r.tl, r.tu, r.td⟩) := Lib.hid (by rw [HE.out]; simp)
      go_upto_region 9 with fail
      go_wp2_with (first | (refine Row.wpList_load_g 29 _ rfl (by first | rfl | (go_simp; done) | fail) ⟨gn, 0, none⟩ rfl (Ru.cells ⟨r.co, n1, a, b, l1, r.pr, r.ex, r.dn, r.mx, r.tl, r.tu, r.td⟩) _ (seg H8.out 0 0 rfl _ rfl) Try.underlying29 rfl infoRu ?_) | (refine wpList_store_row rfl 29 _ _ rfl gz (Ru.cells ⟨r.co, n1, a, b, l1, r.pr, r.ex, r.dn, r.mx, r.tl, r.tu, r.td⟩).toArray rfl rfl 29 _ (H8.out.at 1 rfl) infoRu rfl (one_ru _) ?_))
      have hput := H8.out.put 1 rfl (Ru.cells ⟨r.co, n1, a, b, l1, r.pr, r.ex, r.dn, r.mx, r.tl, r.tu, r.td⟩).toArray
      simp only [List.set_cons_succ, List.set_cons_zero] at hput
      generalize World.setRow v8 gz _ = vz at hput ⊢
      have HG := Lib.hid hput
      clear hput
      go_wp2_with fail
      (try simp only [Exit.inBlock, Exit.then])
      refine bodyPost_ret (v := .agg (Ru.cells ⟨r.co, n1, a, b, l1, r.pr, r.ex, r.dn, r.mx, r.tl, r.tu, r.td⟩).toArray) ?_ rfl ⟨ret_ru HE.out.symm, HG.out.bel⟩
      exact results_cell_row rfl _ _ gz 29 _ (0, 0) _ rfl (HG.out.at 1 rfl) Try.underlying29 rfl infoRu
    by_cases h1 : a = 1
    · subst h1
      replace HE : Hid (lon p r c = ⟨r.co, n1, 1, b, l1, r.pr, r.ex, false, false, r.tl, r.tu, r.td⟩) := Lib.hid (by rw [HE.out]; simp)
      have n_fs : v8.cell? ⟨gn, 2, none⟩ = some (I 1) := H8.out.cell 0 2 rfl rfl
      go_upto_region 8 with fail
      clear n_fs
      have n_dn : v8.cell? ⟨gn, 7, none⟩ = some (.bool r.dn) := H8.out.cell 0 7 rfl rfl
      have f_dn : v8.frozen? ⟨gn, 7, none⟩ = false := H8.out.frozen 0 7 rfl
      have n_mx : v8.cell? ⟨gn, 8, none⟩ = some (.bool r.mx) := H8.out.cell 0 8 rfl rfl
      have f_mx : v8.frozen? ⟨gn, 8, none⟩ = false := H8.out.frozen 0 8 rfl
      go_upto_region 9 with fail
      have hput := (H8.out.set 0 7 rfl (.bool false)).set 0 8 rfl (.bool false)
      rw [show Array.setIfInBounds (Array.setIfInBounds _ 7 (.bool false)) 8 (.bool false) = (Ru.cells ⟨r.co, n1, 1, b, l1, r.pr, r.ex, false, false, r.tl, r.tu, r.td⟩).toArray from rfl] at hput
      simp only [List.set_cons_succ, List.set_cons_zero] at hput
      generalize World.setCell (World.setCell v8 _ _) _ _ = v9 at hput ⊢
      have H9 := Lib.hid hput
      clear hput n_dn f_dn n_mx f_mx
      go_wp2_with (first | (refine Row.wpList_load_g 29 _ rfl (by first | rfl | (go_simp; done) | fail) ⟨gn, 0, none⟩ rfl (Ru.cells ⟨r.co, n1, 1, b, l1, r.pr, r.ex, false, false, r.tl, r.tu, r.td⟩) _ (seg H9.out 0 0 rfl _ rfl) Try.underlying29 rfl infoRu ?_) | (refine wpList_store_row rfl 29 _ _ rfl gz (Ru.cells ⟨r.co, n1, 1, b, l1, r.pr, r.ex, false, false, r.tl, r.tu, r.td⟩).toArray rfl rfl 29 _ (H9.out.at 1 rfl) infoRu rfl (one_ru _) ?_))
      have hput := H9.out.put 1 rfl (Ru.cells ⟨r.co, n1, 1, b, l1, r.pr, r.ex, false, false, r.tl, r.tu, r.td⟩).toArray
      simp only [List.set_cons_succ, List.set_cons_zero] at hput
      generalize World.setRow v9 gz _ = vz at hput ⊢
      have HG := Lib.hid hput
      clear hput
      go_wp2_with fail
      (try simp only [Exit.inBlock, Exit.then])
      refine bodyPost_ret (v := .agg (Ru.cells ⟨r.co, n1, 1, b, l1, r.pr, r.ex, false, false, r.tl, r.tu, r.td⟩).toArray) ?_ rfl ⟨ret_ru HE.out.symm, HG.out.bel⟩
      exact results_cell_row rfl _ _ gz 29 _ (0, 0) _ rfl (HG.out.at 1 rfl) Try.underlying29 rfl infoRu
    · replace HE : Hid (lon p r c = ⟨r.co, n1, a, b, l1, r.pr, r.ex, r.dn, r.mx, r.tl, r.tu, r.td⟩) := Lib.hid (by rw [HE.out]; simp [h1])
      have n_fs : v8.cell? ⟨gn, 2, none⟩ = some (I a) := H8.out.cell 0 2 rfl rfl
      go_upto_region 9 with fail
      clear n_fs
      go_wp2_with (first | (refine Row.wpList_load_g 29 _ rfl (by first | rfl | (go_simp; done) | fail) ⟨gn, 0, none⟩ rfl (Ru.cells ⟨r.co, n1, a, b, l1, r.pr, r.ex, r.dn, r.mx, r.tl, r.tu, r.td⟩) _ (seg H8.out 0 0 rfl _ rfl) Try.underlying29 rfl infoRu ?_) | (refine wpList_store_row rfl 29 _ _ rfl gz (Ru.cells ⟨r.co, n1, a, b, l1, r.pr, r.ex, r.dn, r.mx, r.tl, r.tu, r.td⟩).toArray rfl rfl 29 _ (H8.out.at 1 rfl) infoRu rfl (one_ru _) ?_))
      have hput := H8.out.put 1 rfl (Ru.cells ⟨r.co, n1, a, b, l1, r.pr, r.ex, r.dn, r.mx, r.tl, r.tu, r.td⟩).toArray
      simp only [List.set_cons_succ, List.set_cons_zero] at hput
      generalize World.setRow v8 gz _ = vz at hput ⊢
      have HG := Lib.hid hput
      clear hput
      go_wp2_with fail
      (try simp only [Exit.inBlock, Exit.then])
      refine bodyPost_ret (v := .agg (Ru.cells ⟨r.co, n1, a, b, l1, r.pr, r.ex, r.dn, r.mx, r.tl, r.tu, r.td⟩).toArray) ?_ rfl ⟨ret_ru HE.out.symm, HG.out.bel⟩
      exact results_cell_row rfl _ _ gz 29 _ (0, 0) _ rfl (HG.out.at 1 rfl) Try.underlying29 rfl infoRu
  · replace HE : Hid (lon p r c = _) := Lib.hid (HE.out.trans (by rw [if_pos rfl]))
    go_upto_region 6 with fail
    clear t_cps
    have t_rpr : v6.cell? ⟨gt, 18, none⟩ = some (I r.pr) := H6.out.cell 2 18 rfl rfl
    have n_pr : v6.cell? ⟨gn, 5, none⟩ = some (I r.pr) := H6.out.cell 0 5 rfl rfl
    have f_pr : v6.frozen? ⟨gn, 5, none⟩ = false := H6.out.frozen 0 5 rfl
    go_upto_region 7 with (go_at_call 55; with_reducible refine (O2.out _).mono ?_; rintro e w' ⟨rfl, rfl⟩)
    have hput := H6.out.set 0 5 rfl (I n2)
    rw [show Array.setIfInBounds _ 5 (I n2) = (Ru.cells ⟨r.co, n1, a, b, l1, n2, r.ex, r.dn, r.mx, r.tl, r.tu, r.td⟩).toArray from rfl] at hput
    simp only [List.set_cons_succ, List.set_cons_zero] at hput
    generalize World.setCell v6 _ _ = v7 at hput ⊢
    have H7 := Lib.hid hput
    clear hput
    clear t_rpr n_pr f_pr H6
    go_upto_region 7 with fail
    (try clear t_cps)
    go_wp2_with (refine Row.wpList_load_g 25 _ rfl (by first | rfl | (go_simp; done) | fail) ⟨gt, 15, none⟩ rfl [I r.fs, I r.ft] _ (seg H7.out 2 15 rfl _ rfl) Try.underlying25 rfl infoFt ?_)
    refine (SD.out _).mono ?_
    rintro e v8 ⟨rfl, bc⟩
    have H8 := Lib.hid (H7.out.step bc)
    clear bc
    cases i1
    · replace HE : Hid (lon p r c = ⟨r.co, n1, a, b, l1, n2, r.ex, r.dn, r.mx, r.tl, r.tu, r.td⟩) := Lib.hid (by rw [HE.out]; simp)
      go_upto_region 9 with fail
      go_wp2_with (first | (refine Row.wpList_load_g 29 _ rfl (by first | rfl | (go_simp; done) | fail) ⟨gn, 0, none⟩ rfl (Ru.cells ⟨r.co, n1, a, b, l1, n2, r.ex, r.dn, r.mx, r.tl, r.tu, r.td⟩) _ (seg H8.out 0 0 rfl _ rfl) Try.underlying29 rfl infoRu ?_) | (refine wpList_store_row rfl 29 _ _ rfl gz (Ru.cells ⟨r.co, n1, a, b, l1, n2, r.ex, r.dn, r.mx, r.tl, r.tu, r.td⟩).toArray rfl rfl 29 _ (H8.out.at 1 rfl) infoRu rfl (one_ru _) ?_))
      have hput := H8.out.put 1 rfl (Ru.cells ⟨r.co, n1, a, b, l1, n2, r.ex, r.dn, r.mx, r.tl, r.tu, r.td⟩).toArray
      simp only [List.set_cons_succ, List.set_cons_zero] at hput
      generalize World.setRow v8 gz _ = vz at hput ⊢
      have HG := Lib.hid hput
      clear hput
      go_wp2_with fail
      (try simp only [Exit.inBlock, Exit.then])
      refine bodyPost_ret (v := .agg (Ru.cells ⟨r.co, n1, a, b, l1, n2, r.ex, r.dn, r.mx, r.tl, r.tu, r.td⟩).toArray) ?_ rfl ⟨ret_ru HE.out.symm, HG.out.bel⟩
      exact results_cell_row rfl _ _ gz 29 _ (0, 0) _ rfl (HG.out.at 1 rfl) Try.underlying29 rfl infoRu
    by_cases h1 : a = 1
    · subst h1
      replace HE : Hid (lon p r c = ⟨r.co, n1, 1, b, l1, n2, r.ex, false, false, r.tl, r.tu, r.td⟩) := Lib.hid (by rw [HE.out]; simp)
      have n_fs : v8.cell? ⟨gn, 2, none⟩ = some (I 1) := H8.out.cell 0 2 rfl rfl
      go_upto_region 8 with fail
      clear n_fs
      have n_dn : v8.cell? ⟨gn, 7, none⟩ = some (.bool r.dn) := H8.out.cell 0 7 rfl rfl
      have f_dn : v8.frozen? ⟨gn, 7, none⟩ = false := H8.out.frozen 0 7 rfl
      have n_mx : v8.cell? ⟨gn, 8, none⟩ = some (.bool r.mx) := H8.out.cell 0 8 rfl rfl
      have f_mx : v8.frozen? ⟨gn, 8, none⟩ = false := H8.out.frozen 0 8 rfl
      go_upto_region 9 with fail
      have hput := (H8.out.set 0 7 rfl (.bool false)).set 0 8 rfl (.bool false)
      rw [show Array.setIfInBounds (Array.setIfInBounds _ 7 (.bool false)) 8 (.bool false) = (Ru.cells ⟨r.co, n1, 1, b, l1, n2, r.ex, false, false, r.tl, r.tu, r.td⟩).toArray from rfl] at hput
      simp only [List.set_cons_succ, List.set_cons_zero] at hput
      generalize World.setCell (World.setCell v8 _ _) _ _ = v9 at hput ⊢
      have H9 := Lib.hid hput
      clear hput n_dn f_dn n_mx f_mx
      go_wp2_with (first | (refine Row.wpList_load_g 29 _ rfl (by first | rfl | (go_simp; done) | fail) ⟨gn, 0, none⟩ rfl (Ru.cells ⟨r.co, n1, 1, b, l1, n2, r.ex, false, false, r.tl, r.tu, r.td⟩) _ (seg H9.out 0 0 rfl _ rfl) Try.underlying29 rfl infoRu ?_) | (refine wpList_store_row rfl 29 _ _ rfl gz (Ru.cells ⟨r.co, n1, 1, b, l1, n2, r.ex, false, false, r.tl, r.tu, r.td⟩).toArray rfl rfl 29 _ (H9.out.at 1 rfl) infoRu rfl (one_ru _) ?_))
      have hput := H9.out.put 1 rfl (Ru.cells ⟨r.co, n1, 1, b, l1, n2, r.ex, false, false, r.tl, r.tu, r.td⟩).toArray
      simp only [List.set_cons_succ, List.set_cons_zero] at hput
      generalize World.setRow v9 gz _ = vz at hput ⊢
      have HG := Lib.hid hput
      clear hput
      go_wp2_with fail
      (try simp only [Exit.inBlock, Exit.then])
      refine bodyPost_ret (v := .agg (Ru.cells ⟨r.co, n1, 1, b, l1, n2, r.ex, false, false, r.tl, r.tu, r.td⟩).toArray) ?_ rfl ⟨ret_ru HE.out.symm, HG.out.bel⟩
      exact results_cell_row rfl _ _ gz 29 _ (0, 0) _ rfl (HG.out.at 1 rfl) Try.underlying29 rfl infoRu
    · replace HE : Hid (lon p r c = ⟨r.co, n1, a, b, l1, n2, r.ex, r.dn, r.mx, r.tl, r.tu, r.td⟩) := Lib.hid (by rw [HE.out]; simp [h1])
      have n_fs : v8.cell? ⟨gn, 2, none⟩ = some (I a) := H8.out.cell 0 2 rfl rfl
      go_upto_region 9 with fail
      clear n_fs
      go_wp2_with (first | (refine Row.wpList_load_g 29 _ rfl (by first | rfl | (go_simp; done) | fail) ⟨gn, 0, none⟩ rfl (Ru.cells ⟨r.co, n1, a, b, l1, n2, r.ex, r.dn, r.mx, r.tl, r.tu, r.td⟩) _ (seg H8.out 0 0 rfl _ rfl) Try.underlying29 rfl infoRu ?_) | (refine wpList_store_row rfl 29 _ _ rfl gz (Ru.cells ⟨r.co, n1, a, b, l1, n2, r.ex, r.dn, r.mx, r.tl, r.tu, r.td⟩).toArray rfl rfl 29 _ (H8.out.at 1 rfl) infoRu rfl (one_ru _) ?_))
      have hput := H8.out.put 1 rfl (Ru.cells ⟨r.co, n1, a, b, l1, n2, r.ex, r.dn, r.mx, r.tl, r.tu, r.td⟩).toArray
      simp only [List.set_cons_succ, List.set_cons_zero] at hput
      generalize World.setRow v8 gz _ = vz at hput ⊢
      have HG := Lib.hid hput
      clear hput
      go_wp2_with fail
      (try simp only [Exit.inBlock, Exit.then])
      refine bodyPost_ret (v := .agg (Ru.cells ⟨r.co, n1, a, b, l1, n2, r.ex, r.dn, r.mx, r.tl, r.tu, r.td⟩).toArray) ?_ rfl ⟨ret_ru HE.out.symm, HG.out.bel⟩
      exact results_cell_row rfl _ _ gz 29 _ (0, 0) _ rfl (HG.out.at 1 rfl) Try.underlying29 rfl infoRu
end Ru
namespace Ru
open Go Go.ChangeShapes Go.WideShapes Go.ChangeAt Go.RowKit
open Tab Flat TabArg QL
open May (infoP)
open Ped (ft cu idl Ft infoFt)
open Gap (lm lf gr Tn infoTn)
theorem due_any (p : Ph) (r : Ru) (c : Cu) (n : Ru) (w : World) : Calls Try.prog 27 #[.agg (tuC p r c).toArray, .agg (Ru.cells n).toArray] w fun e w' => e = .returned (.bool (duB p c n)) ∧ Below w.heap.size w w' := by
  obtain ⟨fu, hfu⟩ : ∃ x, fuB p n = x := ⟨_, rfl⟩
  obtain ⟨i1, hi1⟩ : ∃ x, idl n.fs = x := ⟨_, rfl⟩
  obtain ⟨ps, hps⟩ : ∃ x, c.ps = x := ⟨_, rfl⟩
  obtain ⟨dn, hdn⟩ : ∃ x, n.dn = x := ⟨_, rfl⟩
  obtain ⟨ea, hea⟩ : ∃ x, c.ea = x := ⟨_, rfl⟩
  have HE : Hid (duB p c n = (ps && (!dn && (decide (p.min ≤ n.tm) && (i1 && (decide (n.lf = 0) || (fu || ea))))))) := Lib.hid (by unfold duB; rw [hfu, hi1, hps, hdn, hea])
  have FU : Hid (∀ W, Calls Try.prog 54 #[.agg (tuC p r c).toArray, .agg (Ru.cells n).toArray] W fun e w' => e = .returned (.bool fu) ∧ Below W.heap.size W w') := Lib.hid (fun W => by rw [← hfu]; exact full_any p r c n W)
  have SD : Hid (∀ W, Calls Try.prog 53 #[.agg #[I n.fs, I n.ft]] W fun e w' => e = .returned (.bool i1) ∧ Below W.heap.size W w') := Lib.hid (fun W => by rw [← hi1]; exact stands_any _ _ W)
  clear hfu hi1
  have hn0 := Blk.Bks.nil w
  have hn1 := hn0.alloc (tuC p r c).toArray 57
  have hn2 := hn1.alloc (Ru.cells n).toArray 29
  rw [show (w.alloc (.cells (tuC p r c).toArray 57)).heap.size = w.heap.size + 1 by simp] at hn2
  clear hn0
  clear hn1
  go_enter Try.func27, Try.ntmps27
  go_upto_region 1 with fail
  generalize World.alloc (World.alloc w _) _ = v at hn2 ⊢
  generalize hg1 : w.heap.size + 1 = gn at hn2 ⊢
  generalize hg0 : w.heap.size = gt at hn2 ⊢
  clear hg0 hg1
  have H0 := Lib.hid hn2
  clear hn2
  have t_cps : v.cell? ⟨gt, 29, none⟩ = some (.bool c.ps) := H0.out.cell 1 29 rfl rfl
  have t_pmin : v.cell? ⟨gt, 1, none⟩ = some (I p.min) := H0.out.cell 1 1 rfl rfl
  have t_cea : v.cell? ⟨gt, 31, none⟩ = some (.bool c.ea) := H0.out.cell 1 31 rfl rfl
  have n_tm : v.cell? ⟨gn, 1, none⟩ = some (I n.tm) := H0.out.cell 0 1 rfl rfl
  have n_dn : v.cell? ⟨gn, 7, none⟩ = some (.bool n.dn) := H0.out.cell 0 7 rfl rfl
  have n_lf : v.cell? ⟨gn, 4, none⟩ = some (I n.lf) := H0.out.cell 0 4 rfl rfl
  rw [hps] at t_cps
  rw [hdn] at n_dn
  rw [hea] at t_cea
  clear hps hdn
  have SG : Lies v ⟨gn, 2, none⟩ [I n.fs, I n.ft] := seg H0.out 0 2 rfl _ rfl
  have SG2 := Lib.hid SG
  clear SG
  obtain ⟨tm, htm⟩ : ∃ x, n.tm = x := ⟨_, rfl⟩
  obtain ⟨mi, hmi⟩ : ∃ x, p.min = x := ⟨_, rfl⟩
  obtain ⟨lf', hlf⟩ : ∃ x, n.lf = x := ⟨_, rfl⟩
  rw [htm] at HE n_tm
  rw [hmi] at HE t_pmin
  rw [hlf] at HE n_lf
  clear htm hmi
  cases ps
  · replace HE : Hid (duB p c n = false) := Lib.hid (by rw [HE.out]; simp [*])
    go_wp2_with fail
    go_ret
    exact ⟨ret_bool HE.out.symm, H0.out.bel⟩
  cases dn
  rotate_left
  · replace HE : Hid (duB p c n = false) := Lib.hid (by rw [HE.out]; simp [*])
    go_wp2_with fail
    go_ret
    exact ⟨ret_bool HE.out.symm, H0.out.bel⟩
  by_cases h1 : mi ≤ tm
  rotate_left
  · replace HE : Hid (duB p c n = false) := Lib.hid (by rw [HE.out]; simp [*])
    go_wp2_with fail
    go_ret
    exact ⟨ret_bool HE.out.symm, H0.out.bel⟩
  go_wp2_with (refine Row.wpList_load_g 25 _ rfl (by first | rfl | (go_simp; done) | fail) ⟨gn, 2, none⟩ rfl [I n.fs, I n.ft] _ (by first | exact SG2.out | exact seg H2.out 0 2 rfl _ rfl) Try.underlying25 rfl infoFt ?_)
  refine (SD.out _).mono ?_
  rintro e v2 ⟨rfl, b2⟩
  have H2 := Lib.hid (H0.out.step b2)
  clear b2 t_cps n_tm n_dn t_pmin t_cea n_lf
  have t_cea : v2.cell? ⟨gt, 31, none⟩ = some (.bool c.ea) := H2.out.cell 1 31 rfl rfl
  have n_lf : v2.cell? ⟨gn, 4, none⟩ = some (I n.lf) := H2.out.cell 0 4 rfl rfl
  rw [hlf] at n_lf
  rw [hea] at t_cea
  clear hlf
  cases i1
  · replace HE : Hid (duB p c n = false) := Lib.hid (by rw [HE.out]; simp [*])
    go_wp2_with fail
    go_ret
    exact ⟨ret_bool HE.out.symm, H2.out.bel⟩
  by_cases h2 : lf' = 0
  · subst h2
    replace HE : Hid (duB p c n = true) := Lib.hid (by rw [HE.out]; simp [*])
    go_wp2_with fail
    go_ret
    exact ⟨ret_bool HE.out.symm, H2.out.bel⟩
  have z2 : (lf' == 0) = false := by rw [beq_eq_false_iff_ne]; exact h2
  go_wp2_with (first | (refine Row.wpList_load_g 57 _ rfl (by first | rfl | (go_simp; done) | fail) ⟨gt, 0, none⟩ rfl (tuC p r c) _ (seg H2.out 1 0 rfl _ rfl) Try.underlying57 rfl infoTu ?_) | (refine Row.wpList_load_g 29 _ rfl (by first | rfl | (go_simp; done) | fail) ⟨gn, 0, none⟩ rfl n.cells _ (seg H2.out 0 0 rfl _ rfl) Try.underlying29 rfl infoRu ?_))
  refine (FU.out _).mono ?_
  rintro e v3 ⟨rfl, bc⟩
  have H3 := Lib.hid (H2.out.step bc)
  clear bc
  clear t_cea n_lf
  have t_cea : v3.cell? ⟨gt, 31, none⟩ = some (.bool c.ea) := H3.out.cell 1 31 rfl rfl
  rw [hea] at t_cea
  cases fu
  · cases ea
    · replace HE : Hid (duB p c n = false) := Lib.hid (by rw [HE.out]; simp [*])
      go_wp2_with fail
      go_ret
      exact ⟨ret_bool HE.out.symm, H3.out.bel⟩
    · replace HE : Hid (duB p c n = true) := Lib.hid (by rw [HE.out]; simp [*])
      go_wp2_with fail
      go_ret
      exact ⟨ret_bool HE.out.symm, H3.out.bel⟩
  · replace HE : Hid (duB p c n = true) := Lib.hid (by rw [HE.out]; simp [*])
    go_wp2_with fail
    go_ret
    exact ⟨ret_bool HE.out.symm, H3.out.bel⟩
end Ru
namespace Ru
open Go Go.ChangeShapes Go.WideShapes Go.ChangeAt Go.RowKit
open Tab Flat TabArg QL
open May (infoP)
open Ped (ft cu idl Ft infoFt)
open Gap (lm lf gr Tn infoTn)
theorem end_any (p : Ph) (r : Ru) (c : Cu) (w : World) : Calls Try.prog 44 #[.agg (tuC p r c).toArray] w fun e w' => e = .returned (.agg (Ru.cells (fin p r)).toArray) ∧ Below w.heap.size w w' := by
  obtain ⟨⟨x, y, z⟩, ht⟩ : ∃ t, tre p r = t := ⟨_, rfl⟩
  have HE : Hid (fin p r = ⟨2, 1, 0, 0, 0, 0, 0, false, false, x, y, z⟩) := Lib.hid (by unfold fin; rw [ht])
  obtain ⟨dn, hdn⟩ : ∃ x, r.dn = x := ⟨_, rfl⟩
  unfold tre at ht
  rw [hdn] at ht
  have F1 : Hid (∀ W, Calls Try.prog 69 #[.agg (tuC p r c).toArray, .int .i64 2] W fun e w' => e = .returned (.agg (Ru.cells (fst r 2)).toArray) ∧ Below W.heap.size W w') := Lib.hid (fun W => first_any p r c 2 W)
  have hn0 := Blk.Bks.nil w
  have hn1 := hn0.alloc (tuC p r c).toArray 57
  have hn2 := hn1.alloc #[I 0, I 0, I 0, I 0, I 0, I 0, I 0, .bool false, .bool false, I 0, I 0, I 0] 29
  rw [show (w.alloc (.cells (tuC p r c).toArray 57)).heap.size = w.heap.size + 1 by simp] at hn2
  clear hn0
  clear hn1
  go_enter Try.func44, Try.ntmps44
  go_upto_region 1 with fail
  generalize World.alloc (World.alloc w _) _ = v at hn2 ⊢
  generalize hg1 : w.heap.size + 1 = gz at hn2 ⊢
  generalize hg0 : w.heap.size = gt at hn2 ⊢
  clear hg0 hg1
  have H0 := Lib.hid hn2
  clear hn2
  go_wp2_with (refine Row.wpList_load_g 57 _ rfl (by first | rfl | (go_simp; done) | fail) ⟨gt, 0, none⟩ rfl (tuC p r c) _ (seg H0.out 1 0 rfl _ rfl) Try.underlying57 rfl infoTu ?_)
  refine (F1.out _).mono ?_
  rintro e v1 ⟨rfl, bc⟩
  have H1 := Lib.hid (H0.out.step bc)
  clear bc
  go_upto_region 2 with (refine Row.wpList_store_new rfl 29 _ _ rfl _ _ (Ru.cells (fst r 2)).toArray rfl rfl rfl infoRu rfl (one_ru _) ?_)
  have hn := H1.out.alloc (Ru.cells (fst r 2)).toArray 29
  generalize World.alloc v1 _ = v2 at hn ⊢
  generalize v1.heap.size = gn at hn ⊢
  have H2 := Lib.hid hn
  clear hn
  clear H0 H1 F1
  have t_rdn : v2.cell? ⟨gt, 20, none⟩ = some (.bool r.dn) := H2.out.cell 2 20 rfl rfl
  rw [hdn] at t_rdn
  cases dn
  · rw [if_neg (by simp)] at ht
    injection ht with e1 e2 e3
    subst e1 e2 e3
    go_upto_region 4 with fail
    go_wp2_with (first | (refine Row.wpList_load_g 29 _ rfl (by first | rfl | (go_simp; done) | fail) ⟨gn, 0, none⟩ rfl (Ru.cells ⟨2, 1, 0, 0, 0, 0, 0, false, false, r.tl, r.tu, r.td⟩) _ (seg H2.out 0 0 rfl _ rfl) Try.underlying29 rfl infoRu ?_) | (refine wpList_store_row rfl 29 _ _ rfl gz (Ru.cells ⟨2, 1, 0, 0, 0, 0, 0, false, false, r.tl, r.tu, r.td⟩).toArray rfl rfl 29 _ (H2.out.at 1 rfl) infoRu rfl (one_ru _) ?_))
    have hput := H2.out.put 1 rfl (Ru.cells ⟨2, 1, 0, 0, 0, 0, 0, false, false, r.tl, r.tu, r.td⟩).toArray
    simp only [List.set_cons_succ, List.set_cons_zero] at hput
    generalize World.setRow v2 gz _ = vz at hput ⊢
    have HG := Lib.hid hput
    clear hput
    go_wp2_with fail
    (try simp only [Exit.inBlock, Exit.then])
    refine bodyPost_ret (v := .agg (Ru.cells ⟨2, 1, 0, 0, 0, 0, 0, false, false, r.tl, r.tu, r.td⟩).toArray) ?_ rfl ⟨ret_ru HE.out.symm, HG.out.bel⟩
    exact results_cell_row rfl _ _ gz 29 _ (0, 0) _ rfl (HG.out.at 1 rfl) Try.underlying29 rfl infoRu
  · rw [if_pos rfl] at ht
    have GR : Hid (∀ W, Calls Try.prog 70 #[.agg p.cells.toArray, .agg #[I r.tl, I r.tu, I r.td], .bool r.mx] W fun e w' => e = .returned (.agg #[I x, I y, I z]) ∧ Below W.heap.size W w') := Lib.hid (fun W => Gap.grow_is ht W)
    clear ht
    go_upto_region 3 with fail
    clear t_rdn
    have t_rmx : v2.cell? ⟨gt, 21, none⟩ = some (.bool r.mx) := H2.out.cell 2 21 rfl rfl
    go_wp2_with (first | (refine Row.wpList_load_g 23 _ rfl (by first | rfl | (go_simp; done) | fail) ⟨gt, 0, none⟩ rfl p.cells _ (seg H2.out 2 0 rfl _ rfl) Try.underlying23 rfl infoP ?_) | (refine Row.wpList_load_g 27 _ rfl (by first | rfl | (go_simp; done) | fail) ⟨gt, 22, none⟩ rfl [I r.tl, I r.tu, I r.td] _ (seg H2.out 2 22 rfl _ rfl) Try.underlying27 rfl infoTn ?_))
    refine (GR.out _).mono ?_
    rintro e v3 ⟨rfl, bc⟩
    have H3 := Lib.hid (H2.out.step bc)
    clear bc
    go_upto_region 4 with (refine store_mid rfl 27 _ _ rfl gn 9 #[I x, I y, I z] rfl rfl 29 _ (Ru.cells ⟨2, 1, 0, 0, 0, 0, 0, false, false, x, y, z⟩).toArray H3.out 0 rfl infoTn (by first | decide | (simp [Ru.cells]; done) | fail) (by simp [Value.oneCell']) rfl ?_)
    have hput := H3.out.put 0 rfl (Ru.cells ⟨2, 1, 0, 0, 0, 0, 0, false, false, x, y, z⟩).toArray
    simp only [List.set_cons_succ, List.set_cons_zero] at hput
    generalize World.setRow _ gn _ = v4 at hput ⊢
    have H4 := Lib.hid hput
    clear hput
    clear H2 H3 GR t_rmx
    go_wp2_with (first | (refine Row.wpList_load_g 29 _ rfl (by first | rfl | (go_simp; done) | fail) ⟨gn, 0, none⟩ rfl (Ru.cells ⟨2, 1, 0, 0, 0, 0, 0, false, false, x, y, z⟩) _ (seg H4.out 0 0 rfl _ rfl) Try.underlying29 rfl infoRu ?_) | (refine wpList_store_row rfl 29 _ _ rfl gz (Ru.cells ⟨2, 1, 0, 0, 0, 0, 0, false, false, x, y, z⟩).toArray rfl rfl 29 _ (H4.out.at 1 rfl) infoRu rfl (one_ru _) ?_))
    have hput := H4.out.put 1 rfl (Ru.cells ⟨2, 1, 0, 0, 0, 0, 0, false, false, x, y, z⟩).toArray
    simp only [List.set_cons_succ, List.set_cons_zero] at hput
    generalize World.setRow v4 gz _ = vz at hput ⊢
    have HG := Lib.hid hput
    clear hput
    go_wp2_with fail
    (try simp only [Exit.inBlock, Exit.then])
    refine bodyPost_ret (v := .agg (Ru.cells ⟨2, 1, 0, 0, 0, 0, 0, false, false, x, y, z⟩).toArray) ?_ rfl ⟨ret_ru HE.out.symm, HG.out.bel⟩
    exact results_cell_row rfl _ _ gz 29 _ (0, 0) _ rfl (HG.out.at 1 rfl) Try.underlying29 rfl infoRu
theorem stay_any (p : Ph) (r : Ru) (c : Cu) (w : World) : Calls Try.prog 45 #[.agg (tuC p r c).toArray] w fun e w' => e = .returned (.agg (Ru.cells (sty p c (lon p r c))).toArray) ∧ Below w.heap.size w w' := by
  obtain ⟨n, hn⟩ : ∃ n, lon p r c = n := ⟨_, rfl⟩
  rw [hn]
  obtain ⟨du, hdu⟩ : ∃ x, duB p c n = x := ⟨_, rfl⟩
  obtain ⟨fu, hfu⟩ : ∃ x, fuB p n = x := ⟨_, rfl⟩
  obtain ⟨ex, hex⟩ : ∃ x, Cnt.more n.ex = x := ⟨_, rfl⟩
  obtain ⟨ho, hho⟩ : ∃ x, c.ho = x := ⟨_, rfl⟩
  have HE : Hid (sty p c n = if du then (if ho then { n with ex := ex } else { n with dn := true, mx := decide (0 < n.lf) && fu }) else n) := Lib.hid (by unfold sty; rw [hdu, hfu, hex, hho])
  have LO : Hid (∀ W, Calls Try.prog 28 #[.agg (tuC p r c).toArray] W fun e w' => e = .returned (.agg n.cells.toArray) ∧ Below W.heap.size W w') := Lib.hid (fun W => by rw [← hn]; exact longer_any p r c W)
  have DU : Hid (∀ W, Calls Try.prog 27 #[.agg (tuC p r c).toArray, .agg n.cells.toArray] W fun e w' => e = .returned (.bool du) ∧ Below W.heap.size W w') := Lib.hid (fun W => by rw [← hdu]; exact due_any p r c n W)
  have FU : Hid (∀ W, Calls Try.prog 54 #[.agg (tuC p r c).toArray, .agg n.cells.toArray] W fun e w' => e = .returned (.bool fu) ∧ Below W.heap.size W w') := Lib.hid (fun W => by rw [← hfu]; exact full_any p r c n W)
  have OM : Hid (∀ W, Calls Try.prog 55 #[.int .i64 n.ex] W fun e w' => e = .returned (.int .i64 ex) ∧ W = w') := Lib.hid (fun W => by rw [← hex]; exact oneMore_any _ W)
  clear hn hdu hfu hex
  have hn0 := Blk.Bks.nil w
  have hn1 := hn0.alloc (tuC p r c).toArray 57
  have hn2 := hn1.alloc #[I 0, I 0, I 0, I 0, I 0, I 0, I 0, .bool false, .bool false, I 0, I 0, I 0] 29
  rw [show (w.alloc (.cells (tuC p r c).toArray 57)).heap.size = w.heap.size + 1 by simp] at hn2
  clear hn0
  clear hn1
  go_enter Try.func45, Try.ntmps45
  go_upto_region 1 with fail
  generalize World.alloc (World.alloc w _) _ = v at hn2 ⊢
  generalize hg1 : w.heap.size + 1 = gz at hn2 ⊢
  generalize hg0 : w.heap.size = gt at hn2 ⊢
  clear hg0 hg1
  have H0 := Lib.hid hn2
  clear hn2
  go_wp2_with (refine Row.wpList_load_g 57 _ rfl (by first | rfl | (go_simp; done) | fail) ⟨gt, 0, none⟩ rfl (tuC p r c) _ (seg H0.out 1 0 rfl _ rfl) Try.underlying57 rfl infoTu ?_)
  refine (LO.out _).mono ?_
  rintro e v1 ⟨rfl, bc⟩
  have H1 := Lib.hid (H0.out.step bc)
  clear bc
  go_upto_region 2 with (refine Row.wpList_store_new rfl 29 _ _ rfl _ _ n.cells.toArray rfl rfl rfl infoRu rfl (one_ru _) ?_)
  have hn := H1.out.alloc n.cells.toArray 29
  generalize World.alloc v1 _ = v2 at hn ⊢
  generalize v1.heap.size = gn at hn ⊢
  have H2 := Lib.hid hn
  clear hn
  clear H0 H1 LO
  go_wp2_with (first | (refine Row.wpList_load_g 57 _ rfl (by first | rfl | (go_simp; done) | fail) ⟨gt, 0, none⟩ rfl (tuC p r c) _ (seg H2.out 2 0 rfl _ rfl) Try.underlying57 rfl infoTu ?_) | (refine Row.wpList_load_g 29 _ rfl (by first | rfl | (go_simp; done) | fail) ⟨gn, 0, none⟩ rfl n.cells _ (seg H2.out 0 0 rfl _ rfl) Try.underlying29 rfl infoRu ?_))
  refine (DU.out _).mono ?_
  rintro e v3 ⟨rfl, bc⟩
  have H3 := Lib.hid (H2.out.step bc)
  clear bc
  clear H2 DU
  cases du
  · replace HE : Hid (sty p c n = n) := Lib.hid (HE.out.trans (if_neg (by simp)))
    go_upto_region 3 with fail
    go_wp2_with (first | (refine Row.wpList_load_g 29 _ rfl (by first | rfl | (go_simp; done) | fail) ⟨gn, 0, none⟩ rfl n.cells _ (seg H3.out 0 0 rfl _ rfl) Try.underlying29 rfl infoRu ?_) | (refine wpList_store_row rfl 29 _ _ rfl gz n.cells.toArray rfl rfl 29 _ (H3.out.at 1 rfl) infoRu rfl (one_ru _) ?_))
    have hput := H3.out.put 1 rfl n.cells.toArray
    simp only [List.set_cons_succ, List.set_cons_zero] at hput
    generalize World.setRow v3 gz _ = vz at hput ⊢
    have HG := Lib.hid hput
    clear hput
    go_wp2_with fail
    (try simp only [Exit.inBlock, Exit.then])
    refine bodyPost_ret (v := .agg n.cells.toArray) ?_ rfl ⟨ret_ru HE.out.symm, HG.out.bel⟩
    exact results_cell_row rfl _ _ gz 29 _ (0, 0) _ rfl (HG.out.at 1 rfl) Try.underlying29 rfl infoRu
  replace HE := Lib.hid (HE.out.trans (if_pos rfl))
  go_upto_region 4 with fail
  have t_cho : v3.cell? ⟨gt, 30, none⟩ = some (.bool c.ho) := H3.out.cell 2 30 rfl rfl
  rw [hho] at t_cho
  cases ho
  rotate_left
  · replace HE : Hid (sty p c n = ⟨n.co, n.tm, n.fs, n.ft, n.lf, n.pr, ex, n.dn, n.mx, n.tl, n.tu, n.td⟩) := Lib.hid (HE.out.trans (if_pos rfl))
    go_upto_region 5 with fail
    clear t_cho
    have n_ex : v3.cell? ⟨gn, 6, none⟩ = some (I n.ex) := H3.out.cell 0 6 rfl rfl
    have f_ex : v3.frozen? ⟨gn, 6, none⟩ = false := H3.out.frozen 0 6 rfl
    go_upto_region 6 with (go_at_call 55; with_reducible refine (OM.out _).mono ?_; rintro e w' ⟨rfl, rfl⟩)
    have hput := H3.out.set 0 6 rfl (I ex)
    rw [show Array.setIfInBounds _ 6 (I ex) = (Ru.cells ⟨n.co, n.tm, n.fs, n.ft, n.lf, n.pr, ex, n.dn, n.mx, n.tl, n.tu, n.td⟩).toArray from rfl] at hput
    simp only [List.set_cons_succ, List.set_cons_zero] at hput
    generalize World.setCell v3 _ _ = v4 at hput ⊢
    have H4 := Lib.hid hput
    clear hput
    clear n_ex f_ex H3
    go_wp2_with (first | (refine Row.wpList_load_g 29 _ rfl (by first | rfl | (go_simp; done) | fail) ⟨gn, 0, none⟩ rfl (Ru.cells ⟨n.co, n.tm, n.fs, n.ft, n.lf, n.pr, ex, n.dn, n.mx, n.tl, n.tu, n.td⟩) _ (seg H4.out 0 0 rfl _ rfl) Try.underlying29 rfl infoRu ?_) | (refine wpList_store_row rfl 29 _ _ rfl gz (Ru.cells ⟨n.co, n.tm, n.fs, n.ft, n.lf, n.pr, ex, n.dn, n.mx, n.tl, n.tu, n.td⟩).toArray rfl rfl 29 _ (H4.out.at 1 rfl) infoRu rfl (one_ru _) ?_))
    have hput := H4.out.put 1 rfl (Ru.cells ⟨n.co, n.tm, n.fs, n.ft, n.lf, n.pr, ex, n.dn, n.mx, n.tl, n.tu, n.td⟩).toArray
    simp only [List.set_cons_succ, List.set_cons_zero] at hput
    generalize World.setRow v4 gz _ = vz at hput ⊢
    have HG := Lib.hid hput
    clear hput
    go_wp2_with fail
    (try simp only [Exit.inBlock, Exit.then])
    refine bodyPost_ret (v := .agg (Ru.cells ⟨n.co, n.tm, n.fs, n.ft, n.lf, n.pr, ex, n.dn, n.mx, n.tl, n.tu, n.td⟩).toArray) ?_ rfl ⟨ret_ru HE.out.symm, HG.out.bel⟩
    exact results_cell_row rfl _ _ gz 29 _ (0, 0) _ rfl (HG.out.at 1 rfl) Try.underlying29 rfl infoRu
  replace HE : Hid (sty p c n = { n with dn := true, mx := decide (0 < n.lf) && fu }) := Lib.hid (HE.out.trans (if_neg (by simp)))
  go_upto_region 7 with fail
  clear t_cho
  have n_lf : v3.cell? ⟨gn, 4, none⟩ = some (I n.lf) := H3.out.cell 0 4 rfl rfl
  by_cases hl : 0 < n.lf
  rotate_left
  · replace HE : Hid (sty p c n = ⟨n.co, n.tm, n.fs, n.ft, n.lf, n.pr, n.ex, true, false, n.tl, n.tu, n.td⟩) := Lib.hid (HE.out.trans (by rw [decide_eq_false hl]; rfl))
    have n_dn : v3.cell? ⟨gn, 7, none⟩ = some (.bool n.dn) := H3.out.cell 0 7 rfl rfl
    have f_dn : v3.frozen? ⟨gn, 7, none⟩ = false := H3.out.frozen 0 7 rfl
    have n_mx : v3.cell? ⟨gn, 8, none⟩ = some (.bool n.mx) := H3.out.cell 0 8 rfl rfl
    have f_mx : v3.frozen? ⟨gn, 8, none⟩ = false := H3.out.frozen 0 8 rfl
    go_upto_region 8 with fail
    clear n_lf n_dn f_dn n_mx f_mx
    have hput := (H3.out.set 0 7 rfl (.bool true)).set 0 8 rfl (.bool false)
    rw [show Array.setIfInBounds (Array.setIfInBounds _ 7 (.bool true)) 8 (.bool false) = (Ru.cells ⟨n.co, n.tm, n.fs, n.ft, n.lf, n.pr, n.ex, true, false, n.tl, n.tu, n.td⟩).toArray from rfl] at hput
    simp only [List.set_cons_succ, List.set_cons_zero] at hput
    generalize World.setCell (World.setCell v3 _ _) _ _ = v9 at hput ⊢
    have H9 := Lib.hid hput
    clear hput
    go_wp2_with (first | (refine Row.wpList_load_g 29 _ rfl (by first | rfl | (go_simp; done) | fail) ⟨gn, 0, none⟩ rfl (Ru.cells ⟨n.co, n.tm, n.fs, n.ft, n.lf, n.pr, n.ex, true, false, n.tl, n.tu, n.td⟩) _ (seg H9.out 0 0 rfl _ rfl) Try.underlying29 rfl infoRu ?_) | (refine wpList_store_row rfl 29 _ _ rfl gz (Ru.cells ⟨n.co, n.tm, n.fs, n.ft, n.lf, n.pr, n.ex, true, false, n.tl, n.tu, n.td⟩).toArray rfl rfl 29 _ (H9.out.at 1 rfl) infoRu rfl (one_ru _) ?_))
    have hput := H9.out.put 1 rfl (Ru.cells ⟨n.co, n.tm, n.fs, n.ft, n.lf, n.pr, n.ex, true, false, n.tl, n.tu, n.td⟩).toArray
    simp only [List.set_cons_succ, List.set_cons_zero] at hput
    generalize World.setRow v9 gz _ = vz at hput ⊢
    have HG := Lib.hid hput
    clear hput
    go_wp2_with fail
    (try simp only [Exit.inBlock, Exit.then])
    refine bodyPost_ret (v := .agg (Ru.cells ⟨n.co, n.tm, n.fs, n.ft, n.lf, n.pr, n.ex, true, false, n.tl, n.tu, n.td⟩).toArray) ?_ rfl ⟨ret_ru HE.out.symm, HG.out.bel⟩
    exact results_cell_row rfl _ _ gz 29 _ (0, 0) _ rfl (HG.out.at 1 rfl) Try.underlying29 rfl infoRu
  replace HE : Hid (sty p c n = ⟨n.co, n.tm, n.fs, n.ft, n.lf, n.pr, n.ex, true, fu, n.tl, n.tu, n.td⟩) := Lib.hid (HE.out.trans (by rw [decide_eq_true hl]; rfl))
  go_wp2_with (first | (refine Row.wpList_load_g 57 _ rfl (by first | rfl | (go_simp; done) | fail) ⟨gt, 0, none⟩ rfl (tuC p r c) _ (seg H3.out 2 0 rfl _ rfl) Try.underlying57 rfl infoTu ?_) | (refine Row.wpList_load_g 29 _ rfl (by first | rfl | (go_simp; done) | fail) ⟨gn, 0, none⟩ rfl n.cells _ (seg H3.out 0 0 rfl _ rfl) Try.underlying29 rfl infoRu ?_))
  refine (FU.out _).mono ?_
  rintro e v4 ⟨rfl, bc⟩
  have H4 := Lib.hid (H3.out.step bc)
  clear bc
  clear n_lf H3
  have n_dn : v4.cell? ⟨gn, 7, none⟩ = some (.bool n.dn) := H4.out.cell 0 7 rfl rfl
  have f_dn : v4.frozen? ⟨gn, 7, none⟩ = false := H4.out.frozen 0 7 rfl
  have n_mx : v4.cell? ⟨gn, 8, none⟩ = some (.bool n.mx) := H4.out.cell 0 8 rfl rfl
  have f_mx : v4.frozen? ⟨gn, 8, none⟩ = false := H4.out.frozen 0 8 rfl
  go_upto_region 8 with fail
  clear n_dn f_dn n_mx f_mx
  have hput := (H4.out.set 0 7 rfl (.bool true)).set 0 8 rfl (.bool fu)
  rw [show Array.setIfInBounds (Array.setIfInBounds _ 7 (.bool true)) 8 (.bool fu) = (Ru.cells ⟨n.co, n.tm, n.fs, n.ft, n.lf, n.pr, n.ex, true, fu, n.tl, n.tu, n.td⟩).toArray from rfl] at hput
  simp only [List.set_cons_succ, List.set_cons_zero] at hput
  generalize World.setCell (World.setCell v4 _ _) _ _ = v9 at hput ⊢
  have H9 := Lib.hid hput
  clear hput
  go_wp2_with (first | (refine Row.wpList_load_g 29 _ rfl (by first | rfl | (go_simp; done) | fail) ⟨gn, 0, none⟩ rfl (Ru.cells ⟨n.co, n.tm, n.fs, n.ft, n.lf, n.pr, n.ex, true, fu, n.tl, n.tu, n.td⟩) _ (seg H9.out 0 0 rfl _ rfl) Try.underlying29 rfl infoRu ?_) | (refine wpList_store_row rfl 29 _ _ rfl gz (Ru.cells ⟨n.co, n.tm, n.fs, n.ft, n.lf, n.pr, n.ex, true, fu, n.tl, n.tu, n.td⟩).toArray rfl rfl 29 _ (H9.out.at 1 rfl) infoRu rfl (one_ru _) ?_))
  have hput := H9.out.put 1 rfl (Ru.cells ⟨n.co, n.tm, n.fs, n.ft, n.lf, n.pr, n.ex, true, fu, n.tl, n.tu, n.td⟩).toArray
  simp only [List.set_cons_succ, List.set_cons_zero] at hput
  generalize World.setRow v9 gz _ = vz at hput ⊢
  have HG := Lib.hid hput
  clear hput
  go_wp2_with fail
  (try simp only [Exit.inBlock, Exit.then])
  refine bodyPost_ret (v := .agg (Ru.cells ⟨n.co, n.tm, n.fs, n.ft, n.lf, n.pr, n.ex, true, fu, n.tl, n.tu, n.td⟩).toArray) ?_ rfl ⟨ret_ru HE.out.symm, HG.out.bel⟩
  exact results_cell_row rfl _ _ gz 29 _ (0, 0) _ rfl (HG.out.at 1 rfl) Try.underlying29 rfl infoRu
theorem yellow_any (p : Ph) (r : Ru) (c : Cu) (w : World) : Calls Try.prog 46 #[.agg (tuC p r c).toArray] w fun e w' => e = .returned (.agg (Ru.cells (yel p r)).toArray) ∧ Below w.heap.size w w' := by
  obtain ⟨tm, htm⟩ : ∃ x, r.tm = x := ⟨_, rfl⟩
  obtain ⟨ye, hye⟩ : ∃ x, p.yellow = x := ⟨_, rfl⟩
  obtain ⟨re, hre⟩ : ∃ x, p.red = x := ⟨_, rfl⟩
  by_cases h1 : tm < ye
  · have HE : Hid (yel p r = lst r 2) := Lib.hid (by unfold yel; rw [htm, hye, if_pos h1])
    have F1 : Hid (∀ W, Calls Try.prog 71 #[.agg (tuC p r c).toArray, .int .i64 2] W fun e w' => e = .returned (.agg (Ru.cells (lst r 2)).toArray) ∧ Below W.heap.size W w') := Lib.hid (fun W => last_any p r c 2 W)
    have hn0 := Blk.Bks.nil w
    have hn1 := hn0.alloc (tuC p r c).toArray 57
    have hn2 := hn1.alloc #[I 0, I 0, I 0, I 0, I 0, I 0, I 0, .bool false, .bool false, I 0, I 0, I 0] 29
    rw [show (w.alloc (.cells (tuC p r c).toArray 57)).heap.size = w.heap.size + 1 by simp] at hn2
    clear hn0
    clear hn1
    go_enter Try.func46, Try.ntmps46
    go_upto_region 1 with fail
    generalize World.alloc (World.alloc w _) _ = v at hn2 ⊢
    generalize hg1 : w.heap.size + 1 = gz at hn2 ⊢
    generalize hg0 : w.heap.size = gt at hn2 ⊢
    clear hg0 hg1
    have H0 := Lib.hid hn2
    clear hn2
    have t_rtm : v.cell? ⟨gt, 14, none⟩ = some (I r.tm) := H0.out.cell 1 14 rfl rfl
    have t_pyellow : v.cell? ⟨gt, 6, none⟩ = some (I p.yellow) := H0.out.cell 1 6 rfl rfl
    have t_pred : v.cell? ⟨gt, 7, none⟩ = some (I p.red) := H0.out.cell 1 7 rfl rfl
    rw [htm] at t_rtm
    rw [hye] at t_pyellow
    rw [hre] at t_pred
    clear htm hye hre
    go_wp2_with (refine Row.wpList_load_g 57 _ rfl (by first | rfl | (go_simp; done) | fail) ⟨gt, 0, none⟩ rfl (tuC p r c) _ (seg H0.out 1 0 rfl _ rfl) Try.underlying57 rfl infoTu ?_)
    refine (F1.out _).mono ?_
    rintro e vc ⟨rfl, bc⟩
    have HD := Lib.hid (H0.out.step bc)
    clear bc
    go_wp2_with (refine wpList_store_row rfl 29 _ _ rfl gz (Ru.cells (lst r 2)).toArray rfl rfl 29 _ (HD.out.at 0 rfl) infoRu rfl (one_ru _) ?_)
    have hput := HD.out.put 0 rfl (Ru.cells (lst r 2)).toArray
    simp only [List.set_cons_succ, List.set_cons_zero] at hput
    generalize World.setRow vc gz _ = vz at hput ⊢
    have HG := Lib.hid hput
    clear hput
    go_wp2_with fail
    (try simp only [Exit.inBlock, Exit.then])
    refine bodyPost_ret (v := .agg (Ru.cells (lst r 2)).toArray) ?_ rfl ⟨ret_ru HE.out.symm, HG.out.bel⟩
    exact results_cell_row rfl _ _ gz 29 _ (0, 0) _ rfl (HG.out.at 0 rfl) Try.underlying29 rfl infoRu
  by_cases h2 : 0 < re
  · have HE : Hid (yel p r = fst r 3) := Lib.hid (by unfold yel; rw [htm, hye, hre, if_neg h1, if_pos h2])
    have F1 : Hid (∀ W, Calls Try.prog 69 #[.agg (tuC p r c).toArray, .int .i64 3] W fun e w' => e = .returned (.agg (Ru.cells (fst r 3)).toArray) ∧ Below W.heap.size W w') := Lib.hid (fun W => first_any p r c 3 W)
    have hn0 := Blk.Bks.nil w
    have hn1 := hn0.alloc (tuC p r c).toArray 57
    have hn2 := hn1.alloc #[I 0, I 0, I 0, I 0, I 0, I 0, I 0, .bool false, .bool false, I 0, I 0, I 0] 29
    rw [show (w.alloc (.cells (tuC p r c).toArray 57)).heap.size = w.heap.size + 1 by simp] at hn2
    clear hn0
    clear hn1
    go_enter Try.func46, Try.ntmps46
    go_upto_region 1 with fail
    generalize World.alloc (World.alloc w _) _ = v at hn2 ⊢
    generalize hg1 : w.heap.size + 1 = gz at hn2 ⊢
    generalize hg0 : w.heap.size = gt at hn2 ⊢
    clear hg0 hg1
    have H0 := Lib.hid hn2
    clear hn2
    have t_rtm : v.cell? ⟨gt, 14, none⟩ = some (I r.tm) := H0.out.cell 1 14 rfl rfl
    have t_pyellow : v.cell? ⟨gt, 6, none⟩ = some (I p.yellow) := H0.out.cell 1 6 rfl rfl
    have t_pred : v.cell? ⟨gt, 7, none⟩ = some (I p.red) := H0.out.cell 1 7 rfl rfl
    rw [htm] at t_rtm
    rw [hye] at t_pyellow
    rw [hre] at t_pred
    clear htm hye hre
    go_wp2_with (refine Row.wpList_load_g 57 _ rfl (by first | rfl | (go_simp; done) | fail) ⟨gt, 0, none⟩ rfl (tuC p r c) _ (seg H0.out 1 0 rfl _ rfl) Try.underlying57 rfl infoTu ?_)
    refine (F1.out _).mono ?_
    rintro e vc ⟨rfl, bc⟩
    have HD := Lib.hid (H0.out.step bc)
    clear bc
    go_wp2_with (refine wpList_store_row rfl 29 _ _ rfl gz (Ru.cells (fst r 3)).toArray rfl rfl 29 _ (HD.out.at 0 rfl) infoRu rfl (one_ru _) ?_)
    have hput := HD.out.put 0 rfl (Ru.cells (fst r 3)).toArray
    simp only [List.set_cons_succ, List.set_cons_zero] at hput
    generalize World.setRow vc gz _ = vz at hput ⊢
    have HG := Lib.hid hput
    clear hput
    go_wp2_with fail
    (try simp only [Exit.inBlock, Exit.then])
    refine bodyPost_ret (v := .agg (Ru.cells (fst r 3)).toArray) ?_ rfl ⟨ret_ru HE.out.symm, HG.out.bel⟩
    exact results_cell_row rfl _ _ gz 29 _ (0, 0) _ rfl (HG.out.at 0 rfl) Try.underlying29 rfl infoRu
  · have HE : Hid (yel p r = fst r 0) := Lib.hid (by unfold yel; rw [htm, hye, hre, if_neg h1, if_neg h2])
    have F1 : Hid (∀ W, Calls Try.prog 69 #[.agg (tuC p r c).toArray, .int .i64 0] W fun e w' => e = .returned (.agg (Ru.cells (fst r 0)).toArray) ∧ Below W.heap.size W w') := Lib.hid (fun W => first_any p r c 0 W)
    have hn0 := Blk.Bks.nil w
    have hn1 := hn0.alloc (tuC p r c).toArray 57
    have hn2 := hn1.alloc #[I 0, I 0, I 0, I 0, I 0, I 0, I 0, .bool false, .bool false, I 0, I 0, I 0] 29
    rw [show (w.alloc (.cells (tuC p r c).toArray 57)).heap.size = w.heap.size + 1 by simp] at hn2
    clear hn0
    clear hn1
    go_enter Try.func46, Try.ntmps46
    go_upto_region 1 with fail
    generalize World.alloc (World.alloc w _) _ = v at hn2 ⊢
    generalize hg1 : w.heap.size + 1 = gz at hn2 ⊢
    generalize hg0 : w.heap.size = gt at hn2 ⊢
    clear hg0 hg1
    have H0 := Lib.hid hn2
    clear hn2
    have t_rtm : v.cell? ⟨gt, 14, none⟩ = some (I r.tm) := H0.out.cell 1 14 rfl rfl
    have t_pyellow : v.cell? ⟨gt, 6, none⟩ = some (I p.yellow) := H0.out.cell 1 6 rfl rfl
    have t_pred : v.cell? ⟨gt, 7, none⟩ = some (I p.red) := H0.out.cell 1 7 rfl rfl
    rw [htm] at t_rtm
    rw [hye] at t_pyellow
    rw [hre] at t_pred
    clear htm hye hre
    go_wp2_with (refine Row.wpList_load_g 57 _ rfl (by first | rfl | (go_simp; done) | fail) ⟨gt, 0, none⟩ rfl (tuC p r c) _ (seg H0.out 1 0 rfl _ rfl) Try.underlying57 rfl infoTu ?_)
    refine (F1.out _).mono ?_
    rintro e vc ⟨rfl, bc⟩
    have HD := Lib.hid (H0.out.step bc)
    clear bc
    go_wp2_with (refine wpList_store_row rfl 29 _ _ rfl gz (Ru.cells (fst r 0)).toArray rfl rfl 29 _ (HD.out.at 0 rfl) infoRu rfl (one_ru _) ?_)
    have hput := HD.out.put 0 rfl (Ru.cells (fst r 0)).toArray
    simp only [List.set_cons_succ, List.set_cons_zero] at hput
    generalize World.setRow vc gz _ = vz at hput ⊢
    have HG := Lib.hid hput
    clear hput
    go_wp2_with fail
    (try simp only [Exit.inBlock, Exit.then])
    refine bodyPost_ret (v := .agg (Ru.cells (fst r 0)).toArray) ?_ rfl ⟨ret_ru HE.out.symm, HG.out.bel⟩
    exact results_cell_row rfl _ _ gz 29 _ (0, 0) _ rfl (HG.out.at 0 rfl) Try.underlying29 rfl infoRu
theorem clearance_any (p : Ph) (r : Ru) (c : Cu) (w : World) : Calls Try.prog 47 #[.agg (tuC p r c).toArray] w fun e w' => e = .returned (.agg (Ru.cells (cle p r)).toArray) ∧ Below w.heap.size w w' := by
  obtain ⟨tm, htm⟩ : ∃ x, r.tm = x := ⟨_, rfl⟩
  obtain ⟨ye, hye⟩ : ∃ x, p.yellow = x := ⟨_, rfl⟩
  obtain ⟨re, hre⟩ : ∃ x, p.red = x := ⟨_, rfl⟩
  by_cases h1 : tm < re
  · have HE : Hid (cle p r = lst r 3) := Lib.hid (by unfold cle; rw [htm, hre, if_pos h1])
    have F1 : Hid (∀ W, Calls Try.prog 71 #[.agg (tuC p r c).toArray, .int .i64 3] W fun e w' => e = .returned (.agg (Ru.cells (lst r 3)).toArray) ∧ Below W.heap.size W w') := Lib.hid (fun W => last_any p r c 3 W)
    have hn0 := Blk.Bks.nil w
    have hn1 := hn0.alloc (tuC p r c).toArray 57
    have hn2 := hn1.alloc #[I 0, I 0, I 0, I 0, I 0, I 0, I 0, .bool false, .bool false, I 0, I 0, I 0] 29
    rw [show (w.alloc (.cells (tuC p r c).toArray 57)).heap.size = w.heap.size + 1 by simp] at hn2
    clear hn0
    clear hn1
    go_enter Try.func47, Try.ntmps47
    go_upto_region 1 with fail
    generalize World.alloc (World.alloc w _) _ = v at hn2 ⊢
    generalize hg1 : w.heap.size + 1 = gz at hn2 ⊢
    generalize hg0 : w.heap.size = gt at hn2 ⊢
    clear hg0 hg1
    have H0 := Lib.hid hn2
    clear hn2
    have t_rtm : v.cell? ⟨gt, 14, none⟩ = some (I r.tm) := H0.out.cell 1 14 rfl rfl
    have t_pred : v.cell? ⟨gt, 7, none⟩ = some (I p.red) := H0.out.cell 1 7 rfl rfl
    rw [htm] at t_rtm
    rw [hre] at t_pred
    clear htm hye hre
    go_wp2_with (refine Row.wpList_load_g 57 _ rfl (by first | rfl | (go_simp; done) | fail) ⟨gt, 0, none⟩ rfl (tuC p r c) _ (seg H0.out 1 0 rfl _ rfl) Try.underlying57 rfl infoTu ?_)
    refine (F1.out _).mono ?_
    rintro e vc ⟨rfl, bc⟩
    have HD := Lib.hid (H0.out.step bc)
    clear bc
    go_wp2_with (refine wpList_store_row rfl 29 _ _ rfl gz (Ru.cells (lst r 3)).toArray rfl rfl 29 _ (HD.out.at 0 rfl) infoRu rfl (one_ru _) ?_)
    have hput := HD.out.put 0 rfl (Ru.cells (lst r 3)).toArray
    simp only [List.set_cons_succ, List.set_cons_zero] at hput
    generalize World.setRow vc gz _ = vz at hput ⊢
    have HG := Lib.hid hput
    clear hput
    go_wp2_with fail
    (try simp only [Exit.inBlock, Exit.then])
    refine bodyPost_ret (v := .agg (Ru.cells (lst r 3)).toArray) ?_ rfl ⟨ret_ru HE.out.symm, HG.out.bel⟩
    exact results_cell_row rfl _ _ gz 29 _ (0, 0) _ rfl (HG.out.at 0 rfl) Try.underlying29 rfl infoRu
  · have HE : Hid (cle p r = fst r 0) := Lib.hid (by unfold cle; rw [htm, hre, if_neg h1])
    have F1 : Hid (∀ W, Calls Try.prog 69 #[.agg (tuC p r c).toArray, .int .i64 0] W fun e w' => e = .returned (.agg (Ru.cells (fst r 0)).toArray) ∧ Below W.heap.size W w') := Lib.hid (fun W => first_any p r c 0 W)
    have hn0 := Blk.Bks.nil w
    have hn1 := hn0.alloc (tuC p r c).toArray 57
    have hn2 := hn1.alloc #[I 0, I 0, I 0, I 0, I 0, I 0, I 0, .bool false, .bool false, I 0, I 0, I 0] 29
    rw [show (w.alloc (.cells (tuC p r c).toArray 57)).heap.size = w.heap.size + 1 by simp] at hn2
    clear hn0
    clear hn1
    go_enter Try.func47, Try.ntmps47
    go_upto_region 1 with fail
    generalize World.alloc (World.alloc w _) _ = v at hn2 ⊢
    generalize hg1 : w.heap.size + 1 = gz at hn2 ⊢
    generalize hg0 : w.heap.size = gt at hn2 ⊢
    clear hg0 hg1
    have H0 := Lib.hid hn2
    clear hn2
    have t_rtm : v.cell? ⟨gt, 14, none⟩ = some (I r.tm) := H0.out.cell 1 14 rfl rfl
    have t_pred : v.cell? ⟨gt, 7, none⟩ = some (I p.red) := H0.out.cell 1 7 rfl rfl
    rw [htm] at t_rtm
    rw [hre] at t_pred
    clear htm hye hre
    go_wp2_with (refine Row.wpList_load_g 57 _ rfl (by first | rfl | (go_simp; done) | fail) ⟨gt, 0, none⟩ rfl (tuC p r c) _ (seg H0.out 1 0 rfl _ rfl) Try.underlying57 rfl infoTu ?_)
    refine (F1.out _).mono ?_
    rintro e vc ⟨rfl, bc⟩
    have HD := Lib.hid (H0.out.step bc)
    clear bc
    go_wp2_with (refine wpList_store_row rfl 29 _ _ rfl gz (Ru.cells (fst r 0)).toArray rfl rfl 29 _ (HD.out.at 0 rfl) infoRu rfl (one_ru _) ?_)
    have hput := HD.out.put 0 rfl (Ru.cells (fst r 0)).toArray
    simp only [List.set_cons_succ, List.set_cons_zero] at hput
    generalize World.setRow vc gz _ = vz at hput ⊢
    have HG := Lib.hid hput
    clear hput
    go_wp2_with fail
    (try simp only [Exit.inBlock, Exit.then])
    refine bodyPost_ret (v := .agg (Ru.cells (fst r 0)).toArray) ?_ rfl ⟨ret_ru HE.out.symm, HG.out.bel⟩
    exact results_cell_row rfl _ _ gz 29 _ (0, 0) _ rfl (HG.out.at 0 rfl) Try.underlying29 rfl infoRu
theorem red_any (p : Ph) (r : Ru) (c : Cu) (w : World) : Calls Try.prog 48 #[.agg (tuC p r c).toArray] w fun e w' => e = .returned (.agg (Ru.cells (rdR p r c)).toArray) ∧ Below w.heap.size w w' := by
  obtain ⟨st, hst⟩ : ∃ x, c.st = x := ⟨_, rfl⟩
  cases st
  · have HE : Hid (rdR p r c = lst r 0) := Lib.hid (by unfold rdR; rw [hst]; rfl)
    have F1 : Hid (∀ W, Calls Try.prog 71 #[.agg (tuC p r c).toArray, .int .i64 0] W fun e w' => e = .returned (.agg (Ru.cells (lst r 0)).toArray) ∧ Below W.heap.size W w') := Lib.hid (fun W => last_any p r c 0 W)
    have hn0 := Blk.Bks.nil w
    have hn1 := hn0.alloc (tuC p r c).toArray 57
    have hn2 := hn1.alloc #[I 0, I 0, I 0, I 0, I 0, I 0, I 0, .bool false, .bool false, I 0, I 0, I 0] 29
    rw [show (w.alloc (.cells (tuC p r c).toArray 57)).heap.size = w.heap.size + 1 by simp] at hn2
    clear hn0
    clear hn1
    go_enter Try.func48, Try.ntmps48
    go_upto_region 1 with fail
    generalize World.alloc (World.alloc w _) _ = v at hn2 ⊢
    generalize hg1 : w.heap.size + 1 = gz at hn2 ⊢
    generalize hg0 : w.heap.size = gt at hn2 ⊢
    clear hg0 hg1
    have H0 := Lib.hid hn2
    clear hn2
    have t_cst : v.cell? ⟨gt, 25, none⟩ = some (.bool c.st) := H0.out.cell 1 25 rfl rfl
    rw [hst] at t_cst
    go_wp2_with (refine Row.wpList_load_g 57 _ rfl (by first | rfl | (go_simp; done) | fail) ⟨gt, 0, none⟩ rfl (tuC p r c) _ (seg H0.out 1 0 rfl _ rfl) Try.underlying57 rfl infoTu ?_)
    refine (F1.out _).mono ?_
    rintro e vc ⟨rfl, bc⟩
    have HD := Lib.hid (H0.out.step bc)
    clear bc
    go_wp2_with (refine wpList_store_row rfl 29 _ _ rfl gz (Ru.cells (lst r 0)).toArray rfl rfl 29 _ (HD.out.at 0 rfl) infoRu rfl (one_ru _) ?_)
    have hput := HD.out.put 0 rfl (Ru.cells (lst r 0)).toArray
    simp only [List.set_cons_succ, List.set_cons_zero] at hput
    generalize World.setRow vc gz _ = vz at hput ⊢
    have HG := Lib.hid hput
    clear hput
    go_wp2_with fail
    (try simp only [Exit.inBlock, Exit.then])
    refine bodyPost_ret (v := .agg (Ru.cells (lst r 0)).toArray) ?_ rfl ⟨ret_ru HE.out.symm, HG.out.bel⟩
    exact results_cell_row rfl _ _ gz 29 _ (0, 0) _ rfl (HG.out.at 0 rfl) Try.underlying29 rfl infoRu
  · obtain ⟨⟨a, b⟩, hf⟩ : ∃ x, ft p.walk p.blinks 0 0 c.pu = x := ⟨_, rfl⟩
    have HE : Hid (rdR p r c = ⟨1, 1, a, b, p.gap, 0, 0, false, false, r.tl, r.tu, r.td⟩) := Lib.hid (by unfold rdR; rw [hst, hf]; rfl)
    have F1 : Hid (∀ W, Calls Try.prog 69 #[.agg (tuC p r c).toArray, .int .i64 1] W fun e w' => e = .returned (.agg (Ru.cells (fst r 1)).toArray) ∧ Below W.heap.size W w') := Lib.hid (fun W => first_any p r c 1 W)
    have SE : Hid (∀ W, Calls Try.prog 72 #[.agg p.cells.toArray, .agg #[I 0, I 0], .bool c.pu] W fun e w' => e = .returned (.agg #[I a, I b]) ∧ Below W.heap.size W w') := Lib.hid (fun W => Ped.step_is hf W)
    clear hf
    have hn0 := Blk.Bks.nil w
    have hn1 := hn0.alloc (tuC p r c).toArray 57
    have hn2 := hn1.alloc #[I 0, I 0, I 0, I 0, I 0, I 0, I 0, .bool false, .bool false, I 0, I 0, I 0] 29
    rw [show (w.alloc (.cells (tuC p r c).toArray 57)).heap.size = w.heap.size + 1 by simp] at hn2
    clear hn0
    clear hn1
    go_enter Try.func48, Try.ntmps48
    go_upto_region 1 with fail
    generalize World.alloc (World.alloc w _) _ = v at hn2 ⊢
    generalize hg1 : w.heap.size + 1 = gz at hn2 ⊢
    generalize hg0 : w.heap.size = gt at hn2 ⊢
    clear hg0 hg1
    have H0 := Lib.hid hn2
    clear hn2
    have t_cst : v.cell? ⟨gt, 25, none⟩ = some (.bool c.st) := H0.out.cell 1 25 rfl rfl
    rw [hst] at t_cst
    go_wp2_with (refine Row.wpList_load_g 57 _ rfl (by first | rfl | (go_simp; done) | fail) ⟨gt, 0, none⟩ rfl (tuC p r c) _ (seg H0.out 1 0 rfl _ rfl) Try.underlying57 rfl infoTu ?_)
    refine (F1.out _).mono ?_
    rintro e v1 ⟨rfl, bc⟩
    have H1 := Lib.hid (H0.out.step bc)
    clear bc
    go_upto_region 4 with (refine Row.wpList_store_new rfl 29 _ _ rfl _ _ (Ru.cells (fst r 1)).toArray rfl rfl rfl infoRu rfl (one_ru _) ?_)
    have hn := H1.out.alloc (Ru.cells (fst r 1)).toArray 29
    generalize World.alloc v1 _ = v2 at hn ⊢
    generalize v1.heap.size = gn at hn ⊢
    have H2 := Lib.hid hn
    clear hn
    clear H0 H1 F1 t_cst
    have t_cpu : v2.cell? ⟨gt, 28, none⟩ = some (.bool c.pu) := H2.out.cell 2 28 rfl rfl
    go_wp2_with (first | (refine Row.wpList_load_g 23 _ rfl (by first | rfl | (go_simp; done) | fail) ⟨gt, 0, none⟩ rfl p.cells _ (seg H2.out 2 0 rfl _ rfl) Try.underlying23 rfl infoP ?_) | (refine wpList_build rfl 25 [] rfl #[I 0, I 0] [] rfl built0 ?_))
    refine (SE.out _).mono ?_
    rintro e v3 ⟨rfl, bc⟩
    have H3 := Lib.hid (H2.out.step bc)
    clear bc
    go_upto_region 5 with (refine store_mid rfl 25 _ _ rfl gn 2 #[I a, I b] rfl rfl 29 _ (Ru.cells ⟨1, 1, a, b, 0, 0, 0, false, false, r.tl, r.tu, r.td⟩).toArray H3.out 0 rfl infoFt (by first | decide | (simp [Ru.cells]; done) | fail) (by simp [Value.oneCell']) rfl ?_)
    have hput := H3.out.put 0 rfl (Ru.cells ⟨1, 1, a, b, 0, 0, 0, false, false, r.tl, r.tu, r.td⟩).toArray
    simp only [List.set_cons_succ, List.set_cons_zero] at hput
    generalize World.setRow _ gn _ = v4 at hput ⊢
    have H4 := Lib.hid hput
    clear hput
    clear H2 H3 SE t_cpu
    have t_pgap : v4.cell? ⟨gt, 2, none⟩ = some (I p.gap) := H4.out.cell 2 2 rfl rfl
    have n_lf : v4.cell? ⟨gn, 4, none⟩ = some (I 0) := H4.out.cell 0 4 rfl rfl
    have f_lf : v4.frozen? ⟨gn, 4, none⟩ = false := H4.out.frozen 0 4 rfl
    go_upto_region 6 with fail
    have hput := H4.out.set 0 4 rfl (I p.gap)
    rw [show Array.setIfInBounds _ 4 (I p.gap) = (Ru.cells ⟨1, 1, a, b, p.gap, 0, 0, false, false, r.tl, r.tu, r.td⟩).toArray from rfl] at hput
    simp only [List.set_cons_succ, List.set_cons_zero] at hput
    generalize World.setCell v4 _ _ = v5 at hput ⊢
    have H5 := Lib.hid hput
    clear hput
    clear H4 n_lf f_lf t_pgap
    go_wp2_with (first | (refine Row.wpList_load_g 29 _ rfl (by first | rfl | (go_simp; done) | fail) ⟨gn, 0, none⟩ rfl (Ru.cells ⟨1, 1, a, b, p.gap, 0, 0, false, false, r.tl, r.tu, r.td⟩) _ (seg H5.out 0 0 rfl _ rfl) Try.underlying29 rfl infoRu ?_) | (refine wpList_store_row rfl 29 _ _ rfl gz (Ru.cells ⟨1, 1, a, b, p.gap, 0, 0, false, false, r.tl, r.tu, r.td⟩).toArray rfl rfl 29 _ (H5.out.at 1 rfl) infoRu rfl (one_ru _) ?_))
    have hput := H5.out.put 1 rfl (Ru.cells ⟨1, 1, a, b, p.gap, 0, 0, false, false, r.tl, r.tu, r.td⟩).toArray
    simp only [List.set_cons_succ, List.set_cons_zero] at hput
    generalize World.setRow v5 gz _ = vz at hput ⊢
    have HG := Lib.hid hput
    clear hput
    go_wp2_with fail
    (try simp only [Exit.inBlock, Exit.then])
    refine bodyPost_ret (v := .agg (Ru.cells ⟨1, 1, a, b, p.gap, 0, 0, false, false, r.tl, r.tu, r.td⟩).toArray) ?_ rfl ⟨ret_ru HE.out.symm, HG.out.bel⟩
    exact results_cell_row rfl _ _ gz 29 _ (0, 0) _ rfl (HG.out.at 1 rfl) Try.underlying29 rfl infoRu
end Ru
namespace Ru
open Go Go.ChangeShapes Go.WideShapes Go.ChangeAt Go.RowKit
open Tab Flat TabArg QL
open May (infoP)
open Ped (ft cu idl Ft infoFt)
open Gap (lm lf gr Tn infoTn)
theorem step_end (p : Ph) (r : Ru) (c : Cu) (hco : r.co = 1) (hen : c.en = true) (w : World) : Calls Try.prog 23 #[.agg (tuC p r c).toArray] w fun e w' => e = .returned (.func (.func 44) #[.agg (tuC p r c).toArray] #[]) ∧ Below w.heap.size w w' := by
  have hmf : ∀ (fn : Fn) (first cap : Array Value) (W : World), (Instr.makeFunc fn first cap).run Try.prog W = .ok (.func fn first cap) W := fun _ _ _ _ => rfl
  have hn0 := Blk.Bks.nil w
  have hn1 := hn0.alloc (tuC p r c).toArray 57
  clear hn0
  go_enter Try.func23, Try.ntmps23
  go_upto_region 1 with fail
  generalize World.alloc w _ = v at hn1 ⊢
  generalize hg0 : w.heap.size = gt at hn1 ⊢
  clear hg0
  have H0 := Lib.hid hn1
  clear hn1
  have t_rco : v.cell? ⟨gt, 13, none⟩ = some (I r.co) := H0.out.cell 0 13 rfl rfl
  have t_cen : v.cell? ⟨gt, 26, none⟩ = some (.bool c.en) := H0.out.cell 0 26 rfl rfl
  rw [hco] at t_rco
  rw [hen] at t_cen
  go_wp2_with (refine Row.wpList_load_g 57 _ rfl (by first | rfl | (go_simp; done) | fail) ⟨gt, 0, none⟩ rfl (tuC p r c) _ (seg H0.out 0 0 rfl _ rfl) Try.underlying57 rfl infoTu ?_)
  go_ret
  exact ⟨rfl, H0.out.bel⟩
theorem Step_end (p : Ph) (r : Ru) (c : Cu) (hco : r.co = 1) (hen : c.en = true) (w : World) : Calls Try.prog 11 #[.agg p.cells.toArray, .agg r.cells.toArray, .agg c.cells.toArray] w fun e w' => e = .returned (.agg (Ru.cells (stp p r c)).toArray) ∧ Below w.heap.size w w' := by
  have HE : Hid (stp p r c = fin p r) := Lib.hid (by unfold stp; rw [hco, if_pos rfl, hen, if_pos rfl])
  rw [HE.out]
  have SG : Hid (∀ W, Calls Try.prog 23 #[.agg (tuC p r c).toArray] W fun e w' => e = .returned (.func (.func 44) #[.agg (tuC p r c).toArray] #[]) ∧ Below W.heap.size W w') := Lib.hid (fun W => step_end p r c hco hen W)
  have WY : Hid (∀ W, Calls Try.prog 44 #[.agg (tuC p r c).toArray] W fun e w' => e = .returned (.agg (Ru.cells (fin p r)).toArray) ∧ Below W.heap.size W w') := Lib.hid (fun W => end_any p r c W)
  obtain ⟨D, hD⟩ : ∃ D, fin p r = D := ⟨_, rfl⟩
  rw [hD] at WY ⊢
  clear hD HE
  have hn0 := Blk.Bks.nil w
  have hn1 := hn0.alloc p.cells.toArray 23
  have hn2 := hn1.alloc (Ru.cells r).toArray 29
  rw [show (w.alloc (.cells p.cells.toArray 23)).heap.size = w.heap.size + 1 by simp] at hn2
  have hn3 := hn2.alloc c.cells.toArray 31
  rw [show ((w.alloc (.cells p.cells.toArray 23)).alloc (.cells (Ru.cells r).toArray 29)).heap.size = w.heap.size + 1 + 1 by simp] at hn3
  have hn4 := hn3.alloc #[I 0, I 0, I 0, I 0, I 0, I 0, I 0, .bool false, .bool false, I 0, I 0, I 0] 29
  rw [show (((w.alloc (.cells p.cells.toArray 23)).alloc (.cells (Ru.cells r).toArray 29)).alloc (.cells c.cells.toArray 31)).heap.size = w.heap.size + 1 + 1 + 1 by simp] at hn4
  clear hn0
  clear hn1
  clear hn2
  clear hn3
  go_enter Try.func11, Try.ntmps11
  go_upto_region 1 with fail
  generalize World.alloc (World.alloc (World.alloc (World.alloc w _) _) _) _ = v at hn4 ⊢
  generalize hg3 : w.heap.size + 1 + 1 + 1 = gz at hn4 ⊢
  generalize hg2 : w.heap.size + 1 + 1 = gc at hn4 ⊢
  generalize hg1 : w.heap.size + 1 = gr at hn4 ⊢
  generalize hg0 : w.heap.size = gp at hn4 ⊢
  clear hg0 hg1 hg2 hg3
  have H0 := Lib.hid hn4
  clear hn4
  go_wp2_with (first | (refine Row.wpList_load_g 23 _ rfl (by first | rfl | (go_simp; done) | fail) ⟨gp, 0, none⟩ rfl p.cells _ (seg H0.out 3 0 rfl _ rfl) Try.underlying23 rfl infoP ?_) | (refine Row.wpList_load_g 29 _ rfl (by first | rfl | (go_simp; done) | fail) ⟨gr, 0, none⟩ rfl r.cells _ (seg H0.out 2 0 rfl _ rfl) Try.underlying29 rfl infoRu ?_) | (refine Row.wpList_load_g 31 _ rfl (by first | rfl | (go_simp; done) | fail) ⟨gc, 0, none⟩ rfl c.cells _ (seg H0.out 1 0 rfl _ rfl) Try.underlying31 rfl infoCu ?_) | (refine wpList_build rfl 57 [(0, .tmp 8), (1, .tmp 9), (2, .tmp 10)] rfl (tuC p r c).toArray _ (by rfl) (builtU p r c) ?_))
  refine (SG.out _).mono ?_
  rintro e v1 ⟨rfl, bc⟩
  have H1 := Lib.hid (H0.out.step bc)
  clear bc
  go_wp2_with fail
  refine (WY.out _).mono ?_
  rintro e v2 ⟨rfl, bc⟩
  have H2 := Lib.hid (H1.out.step bc)
  clear bc
  go_wp2_with (refine wpList_store_row rfl 29 _ _ rfl gz (Ru.cells D).toArray rfl rfl 29 _ (H2.out.at 0 rfl) infoRu rfl (one_ru _) ?_)
  have hput := H2.out.put 0 rfl (Ru.cells D).toArray
  simp only [List.set_cons_succ, List.set_cons_zero] at hput
  generalize World.setRow v2 gz _ = vz at hput ⊢
  have HG := Lib.hid hput
  clear hput
  go_wp2_with fail
  (try simp only [Exit.inBlock, Exit.then])
  refine bodyPost_ret (v := .agg (Ru.cells D).toArray) ?_ rfl ⟨rfl, HG.out.bel⟩
  exact results_cell_row rfl _ _ gz 29 _ (0, 0) _ rfl (HG.out.at 0 rfl) Try.underlying29 rfl infoRu
theorem step_stay (p : Ph) (r : Ru) (c : Cu) (hco : r.co = 1) (hen : c.en = false) (w : World) : Calls Try.prog 23 #[.agg (tuC p r c).toArray] w fun e w' => e = .returned (.func (.func 45) #[.agg (tuC p r c).toArray] #[]) ∧ Below w.heap.size w w' := by
  have hmf : ∀ (fn : Fn) (first cap : Array Value) (W : World), (Instr.makeFunc fn first cap).run Try.prog W = .ok (.func fn first cap) W := fun _ _ _ _ => rfl
  have hn0 := Blk.Bks.nil w
  have hn1 := hn0.alloc (tuC p r c).toArray 57
  clear hn0
  go_enter Try.func23, Try.ntmps23
  go_upto_region 1 with fail
  generalize World.alloc w _ = v at hn1 ⊢
  generalize hg0 : w.heap.size = gt at hn1 ⊢
  clear hg0
  have H0 := Lib.hid hn1
  clear hn1
  have t_rco : v.cell? ⟨gt, 13, none⟩ = some (I r.co) := H0.out.cell 0 13 rfl rfl
  have t_cen : v.cell? ⟨gt, 26, none⟩ = some (.bool c.en) := H0.out.cell 0 26 rfl rfl
  rw [hco] at t_rco
  rw [hen] at t_cen
  go_wp2_with (refine Row.wpList_load_g 57 _ rfl (by first | rfl | (go_simp; done) | fail) ⟨gt, 0, none⟩ rfl (tuC p r c) _ (seg H0.out 0 0 rfl _ rfl) Try.underlying57 rfl infoTu ?_)
  go_ret
  exact ⟨rfl, H0.out.bel⟩
theorem Step_stay (p : Ph) (r : Ru) (c : Cu) (hco : r.co = 1) (hen : c.en = false) (w : World) : Calls Try.prog 11 #[.agg p.cells.toArray, .agg r.cells.toArray, .agg c.cells.toArray] w fun e w' => e = .returned (.agg (Ru.cells (stp p r c)).toArray) ∧ Below w.heap.size w w' := by
  have HE : Hid (stp p r c = sty p c (lon p r c)) := Lib.hid (by unfold stp; rw [hco, if_pos rfl, hen, if_neg (by simp)])
  rw [HE.out]
  have SG : Hid (∀ W, Calls Try.prog 23 #[.agg (tuC p r c).toArray] W fun e w' => e = .returned (.func (.func 45) #[.agg (tuC p r c).toArray] #[]) ∧ Below W.heap.size W w') := Lib.hid (fun W => step_stay p r c hco hen W)
  have WY : Hid (∀ W, Calls Try.prog 45 #[.agg (tuC p r c).toArray] W fun e w' => e = .returned (.agg (Ru.cells (sty p c (lon p r c))).toArray) ∧ Below W.heap.size W w') := Lib.hid (fun W => stay_any p r c W)
  obtain ⟨D, hD⟩ : ∃ D, sty p c (lon p r c) = D := ⟨_, rfl⟩
  rw [hD] at WY ⊢
  clear hD HE
  have hn0 := Blk.Bks.nil w
  have hn1 := hn0.alloc p.cells.toArray 23
  have hn2 := hn1.alloc (Ru.cells r).toArray 29
  rw [show (w.alloc (.cells p.cells.toArray 23)).heap.size = w.heap.size + 1 by simp] at hn2
  have hn3 := hn2.alloc c.cells.toArray 31
  rw [show ((w.alloc (.cells p.cells.toArray 23)).alloc (.cells (Ru.cells r).toArray 29)).heap.size = w.heap.size + 1 + 1 by simp] at hn3
  have hn4 := hn3.alloc #[I 0, I 0, I 0, I 0, I 0, I 0, I 0, .bool false, .bool false, I 0, I 0, I 0] 29
  rw [show (((w.alloc (.cells p.cells.toArray 23)).alloc (.cells (Ru.cells r).toArray 29)).alloc (.cells c.cells.toArray 31)).heap.size = w.heap.size + 1 + 1 + 1 by simp] at hn4
  clear hn0
  clear hn1
  clear hn2
  clear hn3
  go_enter Try.func11, Try.ntmps11
  go_upto_region 1 with fail
  generalize World.alloc (World.alloc (World.alloc (World.alloc w _) _) _) _ = v at hn4 ⊢
  generalize hg3 : w.heap.size + 1 + 1 + 1 = gz at hn4 ⊢
  generalize hg2 : w.heap.size + 1 + 1 = gc at hn4 ⊢
  generalize hg1 : w.heap.size + 1 = gr at hn4 ⊢
  generalize hg0 : w.heap.size = gp at hn4 ⊢
  clear hg0 hg1 hg2 hg3
  have H0 := Lib.hid hn4
  clear hn4
  go_wp2_with (first | (refine Row.wpList_load_g 23 _ rfl (by first | rfl | (go_simp; done) | fail) ⟨gp, 0, none⟩ rfl p.cells _ (seg H0.out 3 0 rfl _ rfl) Try.underlying23 rfl infoP ?_) | (refine Row.wpList_load_g 29 _ rfl (by first | rfl | (go_simp; done) | fail) ⟨gr, 0, none⟩ rfl r.cells _ (seg H0.out 2 0 rfl _ rfl) Try.underlying29 rfl infoRu ?_) | (refine Row.wpList_load_g 31 _ rfl (by first | rfl | (go_simp; done) | fail) ⟨gc, 0, none⟩ rfl c.cells _ (seg H0.out 1 0 rfl _ rfl) Try.underlying31 rfl infoCu ?_) | (refine wpList_build rfl 57 [(0, .tmp 8), (1, .tmp 9), (2, .tmp 10)] rfl (tuC p r c).toArray _ (by rfl) (builtU p r c) ?_))
  refine (SG.out _).mono ?_
  rintro e v1 ⟨rfl, bc⟩
  have H1 := Lib.hid (H0.out.step bc)
  clear bc
  go_wp2_with fail
  refine (WY.out _).mono ?_
  rintro e v2 ⟨rfl, bc⟩
  have H2 := Lib.hid (H1.out.step bc)
  clear bc
  go_wp2_with (refine wpList_store_row rfl 29 _ _ rfl gz (Ru.cells D).toArray rfl rfl 29 _ (H2.out.at 0 rfl) infoRu rfl (one_ru _) ?_)
  have hput := H2.out.put 0 rfl (Ru.cells D).toArray
  simp only [List.set_cons_succ, List.set_cons_zero] at hput
  generalize World.setRow v2 gz _ = vz at hput ⊢
  have HG := Lib.hid hput
  clear hput
  go_wp2_with fail
  (try simp only [Exit.inBlock, Exit.then])
  refine bodyPost_ret (v := .agg (Ru.cells D).toArray) ?_ rfl ⟨rfl, HG.out.bel⟩
  exact results_cell_row rfl _ _ gz 29 _ (0, 0) _ rfl (HG.out.at 0 rfl) Try.underlying29 rfl infoRu
theorem step_yellow (p : Ph) (r : Ru) (c : Cu) (hco : r.co = 2) (w : World) : Calls Try.prog 23 #[.agg (tuC p r c).toArray] w fun e w' => e = .returned (.func (.func 46) #[.agg (tuC p r c).toArray] #[]) ∧ Below w.heap.size w w' := by
  have hmf : ∀ (fn : Fn) (first cap : Array Value) (W : World), (Instr.makeFunc fn first cap).run Try.prog W = .ok (.func fn first cap) W := fun _ _ _ _ => rfl
  have hn0 := Blk.Bks.nil w
  have hn1 := hn0.alloc (tuC p r c).toArray 57
  clear hn0
  go_enter Try.func23, Try.ntmps23
  go_upto_region 1 with fail
  generalize World.alloc w _ = v at hn1 ⊢
  generalize hg0 : w.heap.size = gt at hn1 ⊢
  clear hg0
  have H0 := Lib.hid hn1
  clear hn1
  have t_rco : v.cell? ⟨gt, 13, none⟩ = some (I r.co) := H0.out.cell 0 13 rfl rfl
  rw [hco] at t_rco
  go_wp2_with (refine Row.wpList_load_g 57 _ rfl (by first | rfl | (go_simp; done) | fail) ⟨gt, 0, none⟩ rfl (tuC p r c) _ (seg H0.out 0 0 rfl _ rfl) Try.underlying57 rfl infoTu ?_)
  go_ret
  exact ⟨rfl, H0.out.bel⟩
theorem Step_yellow (p : Ph) (r : Ru) (c : Cu) (hco : r.co = 2) (w : World) : Calls Try.prog 11 #[.agg p.cells.toArray, .agg r.cells.toArray, .agg c.cells.toArray] w fun e w' => e = .returned (.agg (Ru.cells (stp p r c)).toArray) ∧ Below w.heap.size w w' := by
  have HE : Hid (stp p r c = yel p r) := Lib.hid (by unfold stp; rw [hco, if_neg (by decide), if_pos rfl])
  rw [HE.out]
  have SG : Hid (∀ W, Calls Try.prog 23 #[.agg (tuC p r c).toArray] W fun e w' => e = .returned (.func (.func 46) #[.agg (tuC p r c).toArray] #[]) ∧ Below W.heap.size W w') := Lib.hid (fun W => step_yellow p r c hco W)
  have WY : Hid (∀ W, Calls Try.prog 46 #[.agg (tuC p r c).toArray] W fun e w' => e = .returned (.agg (Ru.cells (yel p r)).toArray) ∧ Below W.heap.size W w') := Lib.hid (fun W => yellow_any p r c W)
  obtain ⟨D, hD⟩ : ∃ D, yel p r = D := ⟨_, rfl⟩
  rw [hD] at WY ⊢
  clear hD HE
  have hn0 := Blk.Bks.nil w
  have hn1 := hn0.alloc p.cells.toArray 23
  have hn2 := hn1.alloc (Ru.cells r).toArray 29
  rw [show (w.alloc (.cells p.cells.toArray 23)).heap.size = w.heap.size + 1 by simp] at hn2
  have hn3 := hn2.alloc c.cells.toArray 31
  rw [show ((w.alloc (.cells p.cells.toArray 23)).alloc (.cells (Ru.cells r).toArray 29)).heap.size = w.heap.size + 1 + 1 by simp] at hn3
  have hn4 := hn3.alloc #[I 0, I 0, I 0, I 0, I 0, I 0, I 0, .bool false, .bool false, I 0, I 0, I 0] 29
  rw [show (((w.alloc (.cells p.cells.toArray 23)).alloc (.cells (Ru.cells r).toArray 29)).alloc (.cells c.cells.toArray 31)).heap.size = w.heap.size + 1 + 1 + 1 by simp] at hn4
  clear hn0
  clear hn1
  clear hn2
  clear hn3
  go_enter Try.func11, Try.ntmps11
  go_upto_region 1 with fail
  generalize World.alloc (World.alloc (World.alloc (World.alloc w _) _) _) _ = v at hn4 ⊢
  generalize hg3 : w.heap.size + 1 + 1 + 1 = gz at hn4 ⊢
  generalize hg2 : w.heap.size + 1 + 1 = gc at hn4 ⊢
  generalize hg1 : w.heap.size + 1 = gr at hn4 ⊢
  generalize hg0 : w.heap.size = gp at hn4 ⊢
  clear hg0 hg1 hg2 hg3
  have H0 := Lib.hid hn4
  clear hn4
  go_wp2_with (first | (refine Row.wpList_load_g 23 _ rfl (by first | rfl | (go_simp; done) | fail) ⟨gp, 0, none⟩ rfl p.cells _ (seg H0.out 3 0 rfl _ rfl) Try.underlying23 rfl infoP ?_) | (refine Row.wpList_load_g 29 _ rfl (by first | rfl | (go_simp; done) | fail) ⟨gr, 0, none⟩ rfl r.cells _ (seg H0.out 2 0 rfl _ rfl) Try.underlying29 rfl infoRu ?_) | (refine Row.wpList_load_g 31 _ rfl (by first | rfl | (go_simp; done) | fail) ⟨gc, 0, none⟩ rfl c.cells _ (seg H0.out 1 0 rfl _ rfl) Try.underlying31 rfl infoCu ?_) | (refine wpList_build rfl 57 [(0, .tmp 8), (1, .tmp 9), (2, .tmp 10)] rfl (tuC p r c).toArray _ (by rfl) (builtU p r c) ?_))
  refine (SG.out _).mono ?_
  rintro e v1 ⟨rfl, bc⟩
  have H1 := Lib.hid (H0.out.step bc)
  clear bc
  go_wp2_with fail
  refine (WY.out _).mono ?_
  rintro e v2 ⟨rfl, bc⟩
  have H2 := Lib.hid (H1.out.step bc)
  clear bc
  go_wp2_with (refine wpList_store_row rfl 29 _ _ rfl gz (Ru.cells D).toArray rfl rfl 29 _ (H2.out.at 0 rfl) infoRu rfl (one_ru _) ?_)
  have hput := H2.out.put 0 rfl (Ru.cells D).toArray
  simp only [List.set_cons_succ, List.set_cons_zero] at hput
  generalize World.setRow v2 gz _ = vz at hput ⊢
  have HG := Lib.hid hput
  clear hput
  go_wp2_with fail
  (try simp only [Exit.inBlock, Exit.then])
  refine bodyPost_ret (v := .agg (Ru.cells D).toArray) ?_ rfl ⟨rfl, HG.out.bel⟩
  exact results_cell_row rfl _ _ gz 29 _ (0, 0) _ rfl (HG.out.at 0 rfl) Try.underlying29 rfl infoRu
theorem step_clearance (p : Ph) (r : Ru) (c : Cu) (hco : r.co = 3) (w : World) : Calls Try.prog 23 #[.agg (tuC p r c).toArray] w fun e w' => e = .returned (.func (.func 47) #[.agg (tuC p r c).toArray] #[]) ∧ Below w.heap.size w w' := by
  have hmf : ∀ (fn : Fn) (first cap : Array Value) (W : World), (Instr.makeFunc fn first cap).run Try.prog W = .ok (.func fn first cap) W := fun _ _ _ _ => rfl
  have hn0 := Blk.Bks.nil w
  have hn1 := hn0.alloc (tuC p r c).toArray 57
  clear hn0
  go_enter Try.func23, Try.ntmps23
  go_upto_region 1 with fail
  generalize World.alloc w _ = v at hn1 ⊢
  generalize hg0 : w.heap.size = gt at hn1 ⊢
  clear hg0
  have H0 := Lib.hid hn1
  clear hn1
  have t_rco : v.cell? ⟨gt, 13, none⟩ = some (I r.co) := H0.out.cell 0 13 rfl rfl
  rw [hco] at t_rco
  go_wp2_with (refine Row.wpList_load_g 57 _ rfl (by first | rfl | (go_simp; done) | fail) ⟨gt, 0, none⟩ rfl (tuC p r c) _ (seg H0.out 0 0 rfl _ rfl) Try.underlying57 rfl infoTu ?_)
  go_ret
  exact ⟨rfl, H0.out.bel⟩
theorem Step_clearance (p : Ph) (r : Ru) (c : Cu) (hco : r.co = 3) (w : World) : Calls Try.prog 11 #[.agg p.cells.toArray, .agg r.cells.toArray, .agg c.cells.toArray] w fun e w' => e = .returned (.agg (Ru.cells (stp p r c)).toArray) ∧ Below w.heap.size w w' := by
  have HE : Hid (stp p r c = cle p r) := Lib.hid (by unfold stp; rw [hco, if_neg (by decide), if_neg (by decide), if_pos rfl])
  rw [HE.out]
  have SG : Hid (∀ W, Calls Try.prog 23 #[.agg (tuC p r c).toArray] W fun e w' => e = .returned (.func (.func 47) #[.agg (tuC p r c).toArray] #[]) ∧ Below W.heap.size W w') := Lib.hid (fun W => step_clearance p r c hco W)
  have WY : Hid (∀ W, Calls Try.prog 47 #[.agg (tuC p r c).toArray] W fun e w' => e = .returned (.agg (Ru.cells (cle p r)).toArray) ∧ Below W.heap.size W w') := Lib.hid (fun W => clearance_any p r c W)
  obtain ⟨D, hD⟩ : ∃ D, cle p r = D := ⟨_, rfl⟩
  rw [hD] at WY ⊢
  clear hD HE
  have hn0 := Blk.Bks.nil w
  have hn1 := hn0.alloc p.cells.toArray 23
  have hn2 := hn1.alloc (Ru.cells r).toArray 29
  rw [show (w.alloc (.cells p.cells.toArray 23)).heap.size = w.heap.size + 1 by simp] at hn2
  have hn3 := hn2.alloc c.cells.toArray 31
  rw [show ((w.alloc (.cells p.cells.toArray 23)).alloc (.cells (Ru.cells r).toArray 29)).heap.size = w.heap.size + 1 + 1 by simp] at hn3
  have hn4 := hn3.alloc #[I 0, I 0, I 0, I 0, I 0, I 0, I 0, .bool false, .bool false, I 0, I 0, I 0] 29
  rw [show (((w.alloc (.cells p.cells.toArray 23)).alloc (.cells (Ru.cells r).toArray 29)).alloc (.cells c.cells.toArray 31)).heap.size = w.heap.size + 1 + 1 + 1 by simp] at hn4
  clear hn0
  clear hn1
  clear hn2
  clear hn3
  go_enter Try.func11, Try.ntmps11
  go_upto_region 1 with fail
  generalize World.alloc (World.alloc (World.alloc (World.alloc w _) _) _) _ = v at hn4 ⊢
  generalize hg3 : w.heap.size + 1 + 1 + 1 = gz at hn4 ⊢
  generalize hg2 : w.heap.size + 1 + 1 = gc at hn4 ⊢
  generalize hg1 : w.heap.size + 1 = gr at hn4 ⊢
  generalize hg0 : w.heap.size = gp at hn4 ⊢
  clear hg0 hg1 hg2 hg3
  have H0 := Lib.hid hn4
  clear hn4
  go_wp2_with (first | (refine Row.wpList_load_g 23 _ rfl (by first | rfl | (go_simp; done) | fail) ⟨gp, 0, none⟩ rfl p.cells _ (seg H0.out 3 0 rfl _ rfl) Try.underlying23 rfl infoP ?_) | (refine Row.wpList_load_g 29 _ rfl (by first | rfl | (go_simp; done) | fail) ⟨gr, 0, none⟩ rfl r.cells _ (seg H0.out 2 0 rfl _ rfl) Try.underlying29 rfl infoRu ?_) | (refine Row.wpList_load_g 31 _ rfl (by first | rfl | (go_simp; done) | fail) ⟨gc, 0, none⟩ rfl c.cells _ (seg H0.out 1 0 rfl _ rfl) Try.underlying31 rfl infoCu ?_) | (refine wpList_build rfl 57 [(0, .tmp 8), (1, .tmp 9), (2, .tmp 10)] rfl (tuC p r c).toArray _ (by rfl) (builtU p r c) ?_))
  refine (SG.out _).mono ?_
  rintro e v1 ⟨rfl, bc⟩
  have H1 := Lib.hid (H0.out.step bc)
  clear bc
  go_wp2_with fail
  refine (WY.out _).mono ?_
  rintro e v2 ⟨rfl, bc⟩
  have H2 := Lib.hid (H1.out.step bc)
  clear bc
  go_wp2_with (refine wpList_store_row rfl 29 _ _ rfl gz (Ru.cells D).toArray rfl rfl 29 _ (H2.out.at 0 rfl) infoRu rfl (one_ru _) ?_)
  have hput := H2.out.put 0 rfl (Ru.cells D).toArray
  simp only [List.set_cons_succ, List.set_cons_zero] at hput
  generalize World.setRow v2 gz _ = vz at hput ⊢
  have HG := Lib.hid hput
  clear hput
  go_wp2_with fail
  (try simp only [Exit.inBlock, Exit.then])
  refine bodyPost_ret (v := .agg (Ru.cells D).toArray) ?_ rfl ⟨rfl, HG.out.bel⟩
  exact results_cell_row rfl _ _ gz 29 _ (0, 0) _ rfl (HG.out.at 0 rfl) Try.underlying29 rfl infoRu
theorem step_red (p : Ph) (r : Ru) (c : Cu) (k : Int) (hco : r.co = k) (h1 : ¬ k = 1) (h2 : ¬ k = 2) (h3 : ¬ k = 3) (w : World) : Calls Try.prog 23 #[.agg (tuC p r c).toArray] w fun e w' => e = .returned (.func (.func 48) #[.agg (tuC p r c).toArray] #[]) ∧ Below w.heap.size w w' := by
  have hmf : ∀ (fn : Fn) (first cap : Array Value) (W : World), (Instr.makeFunc fn first cap).run Try.prog W = .ok (.func fn first cap) W := fun _ _ _ _ => rfl
  have hn0 := Blk.Bks.nil w
  have hn1 := hn0.alloc (tuC p r c).toArray 57
  clear hn0
  go_enter Try.func23, Try.ntmps23
  go_upto_region 1 with fail
  generalize World.alloc w _ = v at hn1 ⊢
  generalize hg0 : w.heap.size = gt at hn1 ⊢
  clear hg0
  have H0 := Lib.hid hn1
  clear hn1
  have t_rco : v.cell? ⟨gt, 13, none⟩ = some (I r.co) := H0.out.cell 0 13 rfl rfl
  rw [hco] at t_rco
  have z1 : (k == 1) = false := by rw [beq_eq_false_iff_ne]; exact h1
  have z2 : (k == 2) = false := by rw [beq_eq_false_iff_ne]; exact h2
  have z3 : (k == 3) = false := by rw [beq_eq_false_iff_ne]; exact h3
  go_wp2_with (refine Row.wpList_load_g 57 _ rfl (by first | rfl | (go_simp; done) | fail) ⟨gt, 0, none⟩ rfl (tuC p r c) _ (seg H0.out 0 0 rfl _ rfl) Try.underlying57 rfl infoTu ?_)
  go_ret
  exact ⟨rfl, H0.out.bel⟩
theorem Step_red (p : Ph) (r : Ru) (c : Cu) (k : Int) (hco : r.co = k) (h1 : ¬ k = 1) (h2 : ¬ k = 2) (h3 : ¬ k = 3) (w : World) : Calls Try.prog 11 #[.agg p.cells.toArray, .agg r.cells.toArray, .agg c.cells.toArray] w fun e w' => e = .returned (.agg (Ru.cells (stp p r c)).toArray) ∧ Below w.heap.size w w' := by
  have HE : Hid (stp p r c = rdR p r c) := Lib.hid (by unfold stp; rw [hco, if_neg h1, if_neg h2, if_neg h3])
  rw [HE.out]
  have SG : Hid (∀ W, Calls Try.prog 23 #[.agg (tuC p r c).toArray] W fun e w' => e = .returned (.func (.func 48) #[.agg (tuC p r c).toArray] #[]) ∧ Below W.heap.size W w') := Lib.hid (fun W => step_red p r c k hco h1 h2 h3 W)
  have WY : Hid (∀ W, Calls Try.prog 48 #[.agg (tuC p r c).toArray] W fun e w' => e = .returned (.agg (Ru.cells (rdR p r c)).toArray) ∧ Below W.heap.size W w') := Lib.hid (fun W => red_any p r c W)
  obtain ⟨D, hD⟩ : ∃ D, rdR p r c = D := ⟨_, rfl⟩
  rw [hD] at WY ⊢
  clear hD HE
  have hn0 := Blk.Bks.nil w
  have hn1 := hn0.alloc p.cells.toArray 23
  have hn2 := hn1.alloc (Ru.cells r).toArray 29
  rw [show (w.alloc (.cells p.cells.toArray 23)).heap.size = w.heap.size + 1 by simp] at hn2
  have hn3 := hn2.alloc c.cells.toArray 31
  rw [show ((w.alloc (.cells p.cells.toArray 23)).alloc (.cells (Ru.cells r).toArray 29)).heap.size = w.heap.size + 1 + 1 by simp] at hn3
  have hn4 := hn3.alloc #[I 0, I 0, I 0, I 0, I 0, I 0, I 0, .bool false, .bool false, I 0, I 0, I 0] 29
  rw [show (((w.alloc (.cells p.cells.toArray 23)).alloc (.cells (Ru.cells r).toArray 29)).alloc (.cells c.cells.toArray 31)).heap.size = w.heap.size + 1 + 1 + 1 by simp] at hn4
  clear hn0
  clear hn1
  clear hn2
  clear hn3
  go_enter Try.func11, Try.ntmps11
  go_upto_region 1 with fail
  generalize World.alloc (World.alloc (World.alloc (World.alloc w _) _) _) _ = v at hn4 ⊢
  generalize hg3 : w.heap.size + 1 + 1 + 1 = gz at hn4 ⊢
  generalize hg2 : w.heap.size + 1 + 1 = gc at hn4 ⊢
  generalize hg1 : w.heap.size + 1 = gr at hn4 ⊢
  generalize hg0 : w.heap.size = gp at hn4 ⊢
  clear hg0 hg1 hg2 hg3
  have H0 := Lib.hid hn4
  clear hn4
  go_wp2_with (first | (refine Row.wpList_load_g 23 _ rfl (by first | rfl | (go_simp; done) | fail) ⟨gp, 0, none⟩ rfl p.cells _ (seg H0.out 3 0 rfl _ rfl) Try.underlying23 rfl infoP ?_) | (refine Row.wpList_load_g 29 _ rfl (by first | rfl | (go_simp; done) | fail) ⟨gr, 0, none⟩ rfl r.cells _ (seg H0.out 2 0 rfl _ rfl) Try.underlying29 rfl infoRu ?_) | (refine Row.wpList_load_g 31 _ rfl (by first | rfl | (go_simp; done) | fail) ⟨gc, 0, none⟩ rfl c.cells _ (seg H0.out 1 0 rfl _ rfl) Try.underlying31 rfl infoCu ?_) | (refine wpList_build rfl 57 [(0, .tmp 8), (1, .tmp 9), (2, .tmp 10)] rfl (tuC p r c).toArray _ (by rfl) (builtU p r c) ?_))
  refine (SG.out _).mono ?_
  rintro e v1 ⟨rfl, bc⟩
  have H1 := Lib.hid (H0.out.step bc)
  clear bc
  go_wp2_with fail
  refine (WY.out _).mono ?_
  rintro e v2 ⟨rfl, bc⟩
  have H2 := Lib.hid (H1.out.step bc)
  clear bc
  go_wp2_with (refine wpList_store_row rfl 29 _ _ rfl gz (Ru.cells D).toArray rfl rfl 29 _ (H2.out.at 0 rfl) infoRu rfl (one_ru _) ?_)
  have hput := H2.out.put 0 rfl (Ru.cells D).toArray
  simp only [List.set_cons_succ, List.set_cons_zero] at hput
  generalize World.setRow v2 gz _ = vz at hput ⊢
  have HG := Lib.hid hput
  clear hput
  go_wp2_with fail
  (try simp only [Exit.inBlock, Exit.then])
  refine bodyPost_ret (v := .agg (Ru.cells D).toArray) ?_ rfl ⟨rfl, HG.out.bel⟩
  exact results_cell_row rfl _ _ gz 29 _ (0, 0) _ rfl (HG.out.at 0 rfl) Try.underlying29 rfl infoRu
theorem step_any (p : Ph) (r : Ru) (c : Cu) (w : World) : Calls Try.prog 11 #[.agg p.cells.toArray, .agg r.cells.toArray, .agg c.cells.toArray] w fun e w' => e = .returned (.agg (Ru.cells (stp p r c)).toArray) ∧ Below w.heap.size w w' := by
  by_cases h1 : r.co = 1
  · cases he : c.en with
    | true => exact Step_end p r c h1 he w
    | false => exact Step_stay p r c h1 he w
  by_cases h2 : r.co = 2
  · exact Step_yellow p r c h2 w
  by_cases h3 : r.co = 3
  · exact Step_clearance p r c h3 w
  exact Step_red p r c r.co rfl h1 h2 h3 w
theorem begin_any (p : Ph) (w : World) : Calls Try.prog 15 #[.agg p.cells.toArray] w fun e w' => e = .returned (.agg (Ru.cells (bgn p)).toArray) ∧ Below w.heap.size w w' := by
  have BG : Hid (∀ W, Calls Try.prog 29 #[.agg p.cells.toArray] W fun e w' => e = .returned (.agg #[I p.max, I 0, I 0]) ∧ Below W.heap.size W w') := Lib.hid (fun W => Gap.begin_any p W)
  have hn0 := Blk.Bks.nil w
  have hn1 := hn0.alloc p.cells.toArray 23
  have hn2 := hn1.alloc #[I 0, I 0, I 0, I 0, I 0, I 0, I 0, .bool false, .bool false, I 0, I 0, I 0] 29
  rw [show (w.alloc (.cells p.cells.toArray 23)).heap.size = w.heap.size + 1 by simp] at hn2
  clear hn0
  clear hn1
  go_enter Try.func15, Try.ntmps15
  go_upto_region 1 with fail
  generalize World.alloc (World.alloc w _) _ = v at hn2 ⊢
  generalize hg1 : w.heap.size + 1 = gz at hn2 ⊢
  generalize hg0 : w.heap.size = gp at hn2 ⊢
  clear hg0 hg1
  have H0 := Lib.hid hn2
  clear hn2
  go_wp2_with (refine Row.wpList_load_g 23 _ rfl (by first | rfl | (go_simp; done) | fail) ⟨gp, 0, none⟩ rfl p.cells _ (seg H0.out 1 0 rfl _ rfl) Try.underlying23 rfl infoP ?_)
  refine (BG.out _).mono ?_
  rintro e v1 ⟨rfl, bc⟩
  have H1 := Lib.hid (H0.out.step bc)
  clear bc
  go_wp2_with (first | (refine wpList_build rfl 29 [(0, .const (I 0)), (1, .const (I 9999)), (8, .tmp 4)] rfl (Ru.cells (bgn p)).toArray _ (by rfl) (built3 0 9999 p.max 0 0) ?_) | (refine wpList_store_row rfl 29 _ _ rfl gz (Ru.cells (bgn p)).toArray rfl rfl 29 _ (H1.out.at 0 rfl) infoRu rfl (one_ru _) ?_))
  have hput := H1.out.put 0 rfl (Ru.cells (bgn p)).toArray
  simp only [List.set_cons_succ, List.set_cons_zero] at hput
  generalize World.setRow v1 gz _ = vz at hput ⊢
  have HG := Lib.hid hput
  clear hput
  go_wp2_with fail
  (try simp only [Exit.inBlock, Exit.then])
  refine bodyPost_ret (v := .agg (Ru.cells (bgn p)).toArray) ?_ rfl ⟨rfl, HG.out.bel⟩
  exact results_cell_row rfl _ _ gz 29 _ (0, 0) _ rfl (HG.out.at 0 rfl) Try.underlying29 rfl infoRu
theorem held_any (p : Ph) (r : Ru) (c : Cu) (w : World) : Calls Try.prog 13 #[.agg p.cells.toArray, .agg r.cells.toArray, .agg c.cells.toArray] w fun e w' => e = .returned (.bool (hld p r c)) ∧ Below w.heap.size w w' := by
  obtain ⟨n, hn⟩ : ∃ n, lon p r c = n := ⟨_, rfl⟩
  obtain ⟨du, hdu⟩ : ∃ x, duB p c n = x := ⟨_, rfl⟩
  obtain ⟨k, hk⟩ : ∃ x, r.co = x := ⟨_, rfl⟩
  obtain ⟨en, hen⟩ : ∃ x, c.en = x := ⟨_, rfl⟩
  obtain ⟨ho, hho⟩ : ∃ x, c.ho = x := ⟨_, rfl⟩
  have HE : Hid (hld p r c = (decide (k = 1) && (!en && (ho && du)))) := Lib.hid (by unfold hld; rw [hn, hdu, hk, hen, hho])
  have LO : Hid (∀ W, Calls Try.prog 28 #[.agg (tuC p r c).toArray] W fun e w' => e = .returned (.agg n.cells.toArray) ∧ Below W.heap.size W w') := Lib.hid (fun W => by rw [← hn]; exact longer_any p r c W)
  have DU : Hid (∀ W, Calls Try.prog 27 #[.agg (tuC p r c).toArray, .agg n.cells.toArray] W fun e w' => e = .returned (.bool du) ∧ Below W.heap.size W w') := Lib.hid (fun W => by rw [← hdu]; exact due_any p r c n W)
  clear hn hdu
  have hn0 := Blk.Bks.nil w
  have hn1 := hn0.alloc p.cells.toArray 23
  have hn2 := hn1.alloc (Ru.cells r).toArray 29
  rw [show (w.alloc (.cells p.cells.toArray 23)).heap.size = w.heap.size + 1 by simp] at hn2
  have hn3 := hn2.alloc c.cells.toArray 31
  rw [show ((w.alloc (.cells p.cells.toArray 23)).alloc (.cells (Ru.cells r).toArray 29)).heap.size = w.heap.size + 1 + 1 by simp] at hn3
  clear hn0
  clear hn1
  clear hn2
  go_enter Try.func13, Try.ntmps13
  go_upto_region 1 with fail
  generalize World.alloc (World.alloc (World.alloc w _) _) _ = v at hn3 ⊢
  generalize hg2 : w.heap.size + 1 + 1 = gc at hn3 ⊢
  generalize hg1 : w.heap.size + 1 = gr at hn3 ⊢
  generalize hg0 : w.heap.size = gp at hn3 ⊢
  clear hg0 hg1 hg2
  have H0 := Lib.hid hn3
  clear hn3
  go_upto_region 2 with (first | (refine Row.wpList_load_g 23 _ rfl (by first | rfl | (go_simp; done) | fail) ⟨gp, 0, none⟩ rfl p.cells _ (seg H0.out 2 0 rfl _ rfl) Try.underlying23 rfl infoP ?_) | (refine Row.wpList_load_g 29 _ rfl (by first | rfl | (go_simp; done) | fail) ⟨gr, 0, none⟩ rfl r.cells _ (seg H0.out 1 0 rfl _ rfl) Try.underlying29 rfl infoRu ?_) | (refine Row.wpList_load_g 31 _ rfl (by first | rfl | (go_simp; done) | fail) ⟨gc, 0, none⟩ rfl c.cells _ (seg H0.out 0 0 rfl _ rfl) Try.underlying31 rfl infoCu ?_) | (refine wpList_build rfl 57 [(0, .tmp 8), (1, .tmp 9), (2, .tmp 10)] rfl (tuC p r c).toArray _ (by rfl) (builtU p r c) ?_) | (refine Row.wpList_store_new rfl 57 _ _ rfl _ _ (tuC p r c).toArray rfl rfl rfl infoTu rfl (one_tu _ _ _) ?_))
  have hn := H0.out.alloc (tuC p r c).toArray 57
  generalize World.alloc v _ = v1 at hn ⊢
  generalize v.heap.size = gt at hn ⊢
  have H1 := Lib.hid hn
  clear hn
  clear H0
  have q0 : ∀ q : QB.By v1.heap.size v1, q.world.cell? ⟨gr, 0, none⟩ = some (I r.co) := fun q => (H1.out.by q).cell 2 0 rfl rfl
  have q1 : ∀ q : QB.By v1.heap.size v1, q.world.cell? ⟨gc, 1, none⟩ = some (.bool c.en) := fun q => (H1.out.by q).cell 1 1 rfl rfl
  have q5 : ∀ q : QB.By v1.heap.size v1, q.world.cell? ⟨gc, 5, none⟩ = some (.bool c.ho) := fun q => (H1.out.by q).cell 1 5 rfl rfl
  rw [hk] at q0
  rw [hen] at q1
  rw [hho] at q5
  clear hk hen hho
  by_cases h1 : k = 1
  rotate_left
  · have z1 : (k == 1) = false := by rw [beq_eq_false_iff_ne]; exact h1
    replace HE : Hid (hld p r c = false) := Lib.hid (by rw [HE.out]; simp [*])
    (try dsimp only [Act.put])
    refine QB.region_below v1.heap.size (by kernel_rfl) (by kernel_rfl) ?_
    repeat first
      | (refine wpQuiet_load rfl 57 _ rfl ⟨gt, 0, none⟩ rfl (tuC p r c) _ (fun w' ⟨pw, e⟩ => by rw [e]; exact seg (H1.out.by pw) 0 0 rfl _ rfl) Try.underlying57 rfl infoTu ?_
         dsimp only [Act.put]
         simp only [List.setIfInBounds_toArray, List.set_cons_zero, List.set_cons_succ])
      | ((quiet_step (first | (go_at_call 28; with_reducible exact QB.call_of (Nat.le_refl _) (fun b => LO.out _)) | (go_at_call 27; with_reducible exact QB.call_of (Nat.le_refl _) (fun b => DU.out _)))))
    refine wpQuiet_nil ?_
    intro _ hw'
    obtain ⟨pq, rfl⟩ := hw'
    have HP := Lib.hid (H1.out.by pq)
    go_wp2
    go_ret
    exact ⟨ret_bool HE.out.symm, HP.out.bel⟩
  subst h1
  cases en
  rotate_left
  · replace HE : Hid (hld p r c = false) := Lib.hid (by rw [HE.out]; simp [*])
    (try dsimp only [Act.put])
    refine QB.region_below v1.heap.size (by kernel_rfl) (by kernel_rfl) ?_
    repeat first
      | (refine wpQuiet_load rfl 57 _ rfl ⟨gt, 0, none⟩ rfl (tuC p r c) _ (fun w' ⟨pw, e⟩ => by rw [e]; exact seg (H1.out.by pw) 0 0 rfl _ rfl) Try.underlying57 rfl infoTu ?_
         dsimp only [Act.put]
         simp only [List.setIfInBounds_toArray, List.set_cons_zero, List.set_cons_succ])
      | ((quiet_step (first | (go_at_call 28; with_reducible exact QB.call_of (Nat.le_refl _) (fun b => LO.out _)) | (go_at_call 27; with_reducible exact QB.call_of (Nat.le_refl _) (fun b => DU.out _)))))
    refine wpQuiet_nil ?_
    intro _ hw'
    obtain ⟨pq, rfl⟩ := hw'
    have HP := Lib.hid (H1.out.by pq)
    go_wp2
    go_ret
    exact ⟨ret_bool HE.out.symm, HP.out.bel⟩
  cases ho
  · replace HE : Hid (hld p r c = false) := Lib.hid (by rw [HE.out]; simp [*])
    (try dsimp only [Act.put])
    refine QB.region_below v1.heap.size (by kernel_rfl) (by kernel_rfl) ?_
    repeat first
      | (refine wpQuiet_load rfl 57 _ rfl ⟨gt, 0, none⟩ rfl (tuC p r c) _ (fun w' ⟨pw, e⟩ => by rw [e]; exact seg (H1.out.by pw) 0 0 rfl _ rfl) Try.underlying57 rfl infoTu ?_
         dsimp only [Act.put]
         simp only [List.setIfInBounds_toArray, List.set_cons_zero, List.set_cons_succ])
      | ((quiet_step (first | (go_at_call 28; with_reducible exact QB.call_of (Nat.le_refl _) (fun b => LO.out _)) | (go_at_call 27; with_reducible exact QB.call_of (Nat.le_refl _) (fun b => DU.out _)))))
    refine wpQuiet_nil ?_
    intro _ hw'
    obtain ⟨pq, rfl⟩ := hw'
    have HP := Lib.hid (H1.out.by pq)
    go_wp2
    go_ret
    exact ⟨ret_bool HE.out.symm, HP.out.bel⟩
  · replace HE : Hid (hld p r c = du) := Lib.hid (by rw [HE.out]; simp [*])
    (try dsimp only [Act.put])
    refine QB.region_below v1.heap.size (by kernel_rfl) (by kernel_rfl) ?_
    repeat first
      | (refine wpQuiet_load rfl 57 _ rfl ⟨gt, 0, none⟩ rfl (tuC p r c) _ (fun w' ⟨pw, e⟩ => by rw [e]; exact seg (H1.out.by pw) 0 0 rfl _ rfl) Try.underlying57 rfl infoTu ?_
         dsimp only [Act.put]
         simp only [List.setIfInBounds_toArray, List.set_cons_zero, List.set_cons_succ])
      | ((quiet_step (first | (go_at_call 28; with_reducible exact QB.call_of (Nat.le_refl _) (fun b => LO.out _)) | (go_at_call 27; with_reducible exact QB.call_of (Nat.le_refl _) (fun b => DU.out _)))))
    refine wpQuiet_nil ?_
    intro _ hw'
    obtain ⟨pq, rfl⟩ := hw'
    have HP := Lib.hid (H1.out.by pq)
    go_wp2
    go_ret
    exact ⟨ret_bool HE.out.symm, HP.out.bel⟩
end Ru
namespace PlaceM
open Go Tab
structure Spt where
  g : Nat
  k : Nat
  i : Nat
  p : Int
  deriving DecidableEq, Inhabited
/-- A table of few groups, with short rows. -/
structure Few (T : Tab) : Prop where
  groups : T.groups.length ≤ 1000
  rows : ∀ g ∈ T.groups, g.1.length ≤ 1000 ∧ g.2.length ≤ 1000
def Spt.cells (x : Spt) : List Value := [I x.g, I x.k, I x.i, I x.p]
theorem Spt.one (x : Spt) : x.cells.toArray.all (·.oneCell') = true := by simp [Spt.cells, Value.oneCell']
def one (g k i : Nat) (p : Int) : List Spt := if 0 ≤ p ∧ p < 8 then [⟨g, k, i, p⟩] else []
def rowS (g k : Nat) : Nat → List Int → List Spt
  | _, [] => []
  | i, p :: l => one g k i p ++ rowS g k (i + 1) l
def grpS (g : Nat) (x : List Int × List Int) : List Spt := rowS g 0 0 x.1 ++ rowS g 1 0 x.2
def allS : Nat → List (List Int × List Int) → List Spt
  | _, [] => []
  | g, x :: l => grpS g x ++ allS (g + 1) l
def spots (T : Tab) : List Spt := allS 0 T.groups
theorem rowS_append (g k : Nat) : ∀ (i : Nat) (l m : List Int), rowS g k i (l ++ m) = rowS g k i l ++ rowS g k (i + l.length) m
  | i, [], m => rfl
  | i, p :: l, m => by
    rw [List.cons_append, rowS, rowS, rowS_append g k (i + 1) l m, List.append_assoc, List.length_cons, show i + 1 + l.length = i + (l.length + 1) by omega]
theorem allS_append : ∀ (g : Nat) (l m : List (List Int × List Int)), allS g (l ++ m) = allS g l ++ allS (g + l.length) m
  | g, [], m => rfl
  | g, x :: l, m => by
    rw [List.cons_append, allS, allS, allS_append (g + 1) l m, List.append_assoc, List.length_cons, show g + 1 + l.length = g + (l.length + 1) by omega]
theorem take_succ {α : Type} {l : List α} {k : Nat} {v : α} (h : l[k]? = some v) : l.take (k + 1) = l.take k ++ [v] := by
  obtain ⟨hk, rfl⟩ := List.getElem?_eq_some_iff.1 h
  exact List.take_succ_eq_append_getElem hk
theorem row_step {g k i : Nat} {l : List Int} {p : Int} (h : l[i]? = some p) : rowS g k 0 (l.take (i + 1)) = rowS g k 0 (l.take i) ++ one g k i p := by
  have hi : i < l.length := (List.getElem?_eq_some_iff.1 h).1
  rw [take_succ h, rowS_append, List.length_take, Nat.min_eq_left (by omega), Nat.zero_add]
  simp [rowS]
theorem row_hit {g k i : Nat} {l : List Int} {p : Int} (h : l[i]? = some p) (h0 : 0 ≤ p) (h8 : p < 8) : rowS g k 0 (l.take (i + 1)) = rowS g k 0 (l.take i) ++ [⟨g, k, i, p⟩] := by
  rw [row_step h, one, if_pos ⟨h0, h8⟩]
theorem row_miss {g k i : Nat} {l : List Int} {p : Int} (h : l[i]? = some p) (h0 : ¬ (0 ≤ p ∧ p < 8)) : rowS g k 0 (l.take (i + 1)) = rowS g k 0 (l.take i) := by
  rw [row_step h, one, if_neg h0, List.append_nil]
theorem all_step {g : Nat} {l : List (List Int × List Int)} {x : List Int × List Int} (h : l[g]? = some x) : allS 0 (l.take (g + 1)) = allS 0 (l.take g) ++ (rowS g 0 0 x.1 ++ rowS g 1 0 x.2) := by
  have hi : g < l.length := (List.getElem?_eq_some_iff.1 h).1
  rw [take_succ h, allS_append, List.length_take, Nat.min_eq_left (by omega), Nat.zero_add]
  simp [allS, grpS]
theorem one_len (g k i : Nat) (p : Int) : (one g k i p).length ≤ 1 := by unfold one; split <;> simp
theorem rowS_len (g k : Nat) : ∀ (i : Nat) (l : List Int), (rowS g k i l).length ≤ l.length
  | i, [] => Nat.le_refl _
  | i, p :: l => by
    rw [rowS, List.length_append, List.length_cons]
    have := one_len g k i p
    have := rowS_len g k (i + 1) l
    omega
theorem allS_len : ∀ (g : Nat) (l : List (List Int × List Int)), (∀ x ∈ l, x.1.length ≤ 1000 ∧ x.2.length ≤ 1000) → (allS g l).length ≤ l.length * 2000
  | g, [], _ => by simp [allS]
  | g, x :: l, h => by
    rw [allS, List.length_append, List.length_cons, Nat.add_mul]
    have h1 := h x (by simp)
    have h2 := allS_len (g + 1) l (fun y hy => h y (by simp [hy]))
    have h3 := rowS_len g 0 0 x.1
    have h4 := rowS_len g 1 0 x.2
    rw [grpS, List.length_append]
    omega
theorem small_len {g : Nat} {l : List (List Int × List Int)} (hl : l.length ≤ 1000) (h : ∀ x ∈ l, x.1.length ≤ 1000 ∧ x.2.length ≤ 1000) : (allS g l).length ≤ 2000000 := by
  have := allS_len g l h
  omega
/-- The first place of a number. -/
def find (p : Int) (l : List Spt) : Option Spt := l.find? (fun x => x.p == p)
theorem find_none {p : Int} {l : List Spt} (h : ∀ x ∈ l, x.p ≠ p) : find p l = none := by
  unfold find
  rw [List.find?_eq_none]
  intro x hx
  simpa using h x hx
def where_ (T : Tab) (p : Int) : Option Spt := find p (spots T)
/-- Do two stand beside each other? -/
def beside (T : Tab) (p q : Int) : Bool := match where_ T p, where_ T q with
  | some a, some b => a.g == b.g && a.k != b.k
  | _, _ => false
end PlaceM
namespace Gath
open Go Go.RowKit
open Tab
section
variable {α : Type} {enc : α → List Value} {size : Nat} {B : Nat} {w w' : World} {e : TypeId} {v : Value} {l : List α}
/-- A slice of its own memory (laid since B) that holds the elements l. -/
def Owns (enc : α → List Value) (size B : Nat) (w : World) (e : TypeId) (v : Value) (l : List α) : Prop := w.ownsRow B e size v l.length (l.flatMap enc)
theorem Owns.nil : Owns enc size B w e (.slice none 0 0) ([] : List α) := World.ownsRow_nil _ _ _ _
theorem Owns.snoc {x : α} {v' : Value} (h : w.ownsRow B e size v' (l.length + 1) (l.flatMap enc ++ enc x)) : Owns enc size B w e v' (l ++ [x]) := by
  unfold Owns
  rw [List.length_append, List.flatMap_append, List.flatMap_cons, List.flatMap_nil, List.append_nil]
  exact h
theorem Owns.below (h : Owns enc size B w e v l) (hb : Below w.heap.size w w') : Owns enc size B w' e v l :=
  World.ownsRow.kept (row := none) h ⟨hb.os, hb.tape, hb.output, hb.size, fun j hj _ => hb.block j hj⟩ (by cases hv : v.ownBlock <;> simp)
theorem Owns.mono {B' : Nat} (h : Owns enc size B w e v l) (hb : B' ≤ B) : Owns enc size B' w e v l := by
  refine ⟨h.1, ?_⟩
  rcases h.2 with hn | ⟨g, cap, cur, rfl, h1, h2⟩
  · exact .inl hn
  · exact .inr ⟨g, cap, cur, rfl, by omega, h2⟩
theorem Owns.blk (h : Owns enc size B w e v l) (j : Nat) (hj : v.ownBlock = some j) : B ≤ j := by
  rcases h.2 with ⟨rfl, _⟩ | ⟨g, cap, cur, rfl, hb, _, _⟩
  · simp [Value.ownBlock] at hj
  · obtain rfl : g = j := by simpa [Value.ownBlock] using hj
    exact hb
theorem flat_at (henc : ∀ x, (enc x).length = size) : ∀ (l : List α) (i : Nat) (x : α), l[i]? = some x → ((l.flatMap enc).drop (i * size)).take size = enc x
  | [], i, x, h => by simp at h
  | y :: l, 0, x, h => by
    obtain rfl : y = x := by simpa using h
    rw [Nat.zero_mul, List.drop_zero, List.flatMap_cons, ← henc y, List.take_left]
  | y :: l, i + 1, x, h => by
    rw [List.flatMap_cons, Nat.add_mul, Nat.one_mul, Nat.add_comm, ← henc y, List.drop_append, List.drop_of_length_le (by omega), List.nil_append, Nat.add_sub_cancel_left, henc y]
    exact flat_at henc l i x (by simpa using h)
/-- What was gathered reads as a row. -/
theorem Owns.row (h : Owns enc size B w e v l) (henc : ∀ x, (enc x).length = size) : ∃ s : Sl, v = s.val l.length ∧ RowOf size enc w s l := by
  rcases h.2 with ⟨rfl, h0⟩ | ⟨g, cap, cur, rfl, h1, h2, h3, h4, h5, h6⟩
  · have : l = [] := List.eq_nil_of_length_eq_zero h0
    subst this
    exact ⟨⟨none, 0⟩, rfl, RowOf.nil w⟩
  · refine ⟨⟨some ⟨g, 0, none⟩, cap⟩, rfl, .inr ⟨_, rfl, h3, h4, fun i x hx j u hu => ?_⟩⟩
    have hi : i < l.length := (List.getElem?_eq_some_iff.1 hx).1
    have hj : j < size := by rw [← henc x]; exact (List.getElem?_eq_some_iff.1 hu).1
    rw [Addr.add_mid, Nat.zero_add, Addr.add_mid, cell_of_row _ _ _ _ _ _ h2]
    have hf := flat_at henc l i x hx
    rw [← h6] at hf
    rw [← hf] at hu
    have hlt : i * size + j < l.length * size := by
      have : (i + 1) * size ≤ l.length * size := Nat.mul_le_mul_right _ hi
      rw [Nat.add_mul, Nat.one_mul] at this
      omega
    rw [List.getElem?_take, if_pos hj, List.getElem?_drop, List.getElem?_take, if_pos hlt, Array.getElem?_toList] at hu
    exact hu
end
end Gath
namespace May
open Go.ChangeShapes Go.WideShapes Go.ChangeAt Go.RowKit
open Tab
/-- Phases that lie at a block's head, as a row. -/
theorem phases_in {w : World} {g : Nat} {cs : Array Value} {t : TypeId} {fr : Nat × Nat} {T : Tab} {h : Hd} (hg : w.heap[g]? = some (.cells cs t fr)) (C : CellsOk T h cs) (hn : T.phases.length = 8) :
    RowOf 13 Ph.cells w ⟨some ⟨g, 0, none⟩, 8⟩ T.phases := by
  refine .inr ⟨_, rfl, by rw [hn]; exact Nat.le_refl _, (show 8 ≤ maxLen by decide), fun i v hv j u hu => ?_⟩
  rw [add_two, Addr.add_mid, Nat.zero_add, Nat.mul_comm]
  exact range_of hg (13 * i) 13 _ (C.phase i v hv) j u hu
/-- What a walk over a boxed table holds on to. -/
structure St (w : World) (N : Nat) (cs : Array Value) (h : Hd) (T : Tab) (W : World) : Prop where
  bel : Below w.heap.size w W
  blk : W.heap[N]? = some (.cells cs 45 (0, 0))
  tab : IsTab W h T
  le : w.heap.size ≤ N
theorem St.step {w W W' : World} {N : Nat} {cs : Array Value} {h : Hd} {T : Tab} (k : St w N cs h T W) (hb : Below W.heap.size W W') : St w N cs h T W' :=
  ⟨chain k.bel hb, by rw [hb.block N (Array.getElem?_eq_some_iff.1 k.blk).1]; exact k.blk, k.tab.below hb, k.le⟩
theorem St.cell {w W : World} {N : Nat} {cs : Array Value} {h : Hd} {T : Tab} (k : St w N cs h T W) {o : Nat} {v : Value} (hv : cs[o]? = some v) : W.cell? ⟨N, o, none⟩ = some v := by
  rw [cell_of_row _ _ _ _ _ _ k.blk]; exact hv
theorem St.box {w : World} {cs : Array Value} {h : Hd} {T : Tab} (k : IsTab w h T) : St w w.heap.size cs h T (w.alloc (.cells cs 45)) :=
  ⟨(Below.refl _ _).alloc (Nat.le_refl _) _, heap_alloc_new _ _, k.below ((Below.refl _ _).alloc (Nat.le_refl _) _), Nat.le_refl _⟩
end May
namespace May
open Go.ChangeShapes Go.WideShapes Go.ChangeAt Go.RowKit
open Tab
def GAll (l : List Gr) : Prop := l.all (fun v => groupMay v.data) = true
theorem GAll.step {l : List Gr} {k : Nat} {v : Gr} (h : l[k]? = some v) (hk : GAll (l.take k)) (hv : groupMay v.data = true) : GAll (l.take (k + 1)) := all_step (f := fun v : Gr => groupMay v.data) h hk hv
theorem infoT : (Try.prog.info? 45).map (·.size) = some 131 := by kernel_rfl
end May
namespace Copy
open Go Go.RowKit
open Tab
section
variable {P : Program}
end
/-! ### a list's elements as one row -/
section
variable {α : Type} {n : Nat} {enc : α → List Value}
end
end Copy
namespace Clone
open Go.ChangeShapes Go.WideShapes Go.ChangeAt Go.RowKit
open Tab Copy
open May (chain infoP infoG infoD infoR infoB)
end Clone
namespace Owned
open Go Go.RowKit
open Tab Copy
structure Blk where
  at_ : Nat
  cells : List Value
  type : TypeId
def Own (B : Nat) (w : World) (L : List Blk) : Prop := (L.map Blk.at_).Nodup ∧ ∀ x ∈ L, B ≤ x.at_ ∧ w.heap[x.at_]? = some (.cells x.cells.toArray x.type (0, 0))
variable {B : Nat} {w w' : World} {L M : List Blk} {x : Blk}
theorem Own.nil : Own B w [] := ⟨by simp, fun x h => by simp at h⟩
theorem Own.get (h : Own B w L) (hx : x ∈ L) : w.heap[x.at_]? = some (.cells x.cells.toArray x.type (0, 0)) := (h.2 x hx).2
theorem Own.base (h : Own B w L) (hx : x ∈ L) : B ≤ x.at_ := (h.2 x hx).1
theorem Own.lt (h : Own B w L) (hx : x ∈ L) : x.at_ < w.heap.size := (Array.getElem?_eq_some_iff.1 (h.get hx)).1
theorem Own.step (h : Own B w L) (hb : Below w.heap.size w w') : Own B w' L := ⟨h.1, fun x hx => ⟨h.base hx, by rw [hb.block _ (h.lt hx)]; exact h.get hx⟩⟩
/-- A new block. -/
theorem Own.add (h : Own B w L) (hb : Below w.heap.size w w') {g : Nat} {cs : List Value} {t : TypeId} (hg : w'.heap[g]? = some (.cells cs.toArray t (0, 0))) (hn : w.heap.size ≤ g) (hB : B ≤ w.heap.size) : Own B w' (⟨g, cs, t⟩ :: L) := by
  refine ⟨List.nodup_cons.2 ⟨fun hm => ?_, h.1⟩, fun y hy => ?_⟩
  · obtain ⟨y, hy, e⟩ := List.mem_map.1 hm
    have := h.lt hy
    have e' : y.at_ = g := e
    omega
  · rcases List.mem_cons.1 hy with rfl | hy
    · exact ⟨Nat.le_trans hB hn, hg⟩
    · exact (h.step hb).2 y hy
/-- The first block is written. -/
theorem Own.write (h : Own B w (x :: L)) {cs : List Value} (hg : w'.heap[x.at_]? = some (.cells cs.toArray x.type (0, 0))) (ho : ∀ j, j ≠ x.at_ → w'.heap[j]? = w.heap[j]?) : Own B w' (⟨x.at_, cs, x.type⟩ :: L) := by
  have hx := (List.nodup_cons.1 h.1).1
  refine ⟨List.nodup_cons.2 ⟨hx, (List.nodup_cons.1 h.1).2⟩, fun y hy => ?_⟩
  rcases List.mem_cons.1 hy with rfl | hy
  · exact ⟨(h.base (x := x) (List.mem_cons_self ..) : B ≤ x.at_), hg⟩
  · have hne : y.at_ ≠ x.at_ := fun e => hx (List.mem_map.2 ⟨y, hy, e⟩)
    exact ⟨h.base (List.mem_cons_of_mem _ hy), by rw [ho _ hne]; exact h.get (List.mem_cons_of_mem _ hy)⟩
theorem Own.cell (h : Own B w L) (hx : x ∈ L) (i : Nat) : w.cell? ⟨x.at_, i, none⟩ = x.cells[i]? := by
  rw [cell_of_row _ _ _ _ _ _ (h.get hx)]; simp
theorem Own.frozen (h : Own B w L) (hx : x ∈ L) (i : Nat) : w.frozen? ⟨x.at_, i, none⟩ = false := frozen_of_row _ _ _ _ _ (h.get hx)
/-- What is below B stays as it is when one's own is written. -/
theorem below_write {a : World} (hb : Below B a w) {g i : Nat} (hg : B ≤ g) (v : Value) : Below B a (w.setCell ⟨g, i, none⟩ v) := hb.setCell (p := ⟨g, i, none⟩) hg v
end Owned
namespace Clone
open Go.ChangeShapes Go.WideShapes Go.ChangeAt Go.RowKit
open Tab Copy Owned
open May (chain infoP infoG infoD infoR infoB infoT)
/-- A group whose rows are blocks of their own. -/
structure NG where
  r0 : List Int
  r1 : List Int
  b0 : Nat
  b1 : Nat
def NG.gr (g : NG) : Gr := ⟨g.r0, g.r1, ⟨some ⟨g.b0, 0, none⟩, g.r0.length⟩, ⟨some ⟨g.b1, 0, none⟩, g.r1.length⟩⟩
def NG.blks (g : NG) : List Blk := [⟨g.b0, g.r0.flatMap (fun n => [I n]), 3⟩, ⟨g.b1, g.r1.flatMap (fun n => [I n]), 3⟩]
abbrev at0 (g n : Nat) : Sl := ⟨some ⟨g, 0, none⟩, n⟩
/-- Where a clone's parts lie. -/
def own (T : Tab) (ns : List NG) (G D R S : Nat) : List Blk :=
  ⟨G, (ns.map NG.gr).flatMap Gr.cells, 85⟩ :: ⟨D, T.dets.flatMap Det.cells, 72⟩ :: ⟨R, T.rails.flatMap Rl.cells, 75⟩ :: ⟨S, T.buses.flatMap Bs.cells, 79⟩ :: ns.flatMap NG.blks
def hd (T : Tab) (G D R S : Nat) : Hd := ⟨at0 G T.groups.length, at0 D T.dets.length, at0 R T.rails.length, at0 S T.buses.length⟩
section
variable {T : Tab} {ns : List NG} {G D R S : Nat}
end
/-! ### a table's cells, with a list moved -/
structure Eights (T : Tab) : Prop where
  p : T.phases.length = 8
  c : T.conflict.length = 8
  f : T.flash.length = 8
theorem Eights.tab {T : Tab} (k : Eights T) (h : Hd) (w : World) : CellsOk T h (T.cells h).toArray := by
  have h0 : IsTab w ⟨⟨none, 0⟩, ⟨none, 0⟩, ⟨none, 0⟩, ⟨none, 0⟩⟩ { T with groups := [], dets := [], rails := [], buses := [] } :=
    ⟨k.p, k.c, k.f, ⟨[], rfl, RowOf.nil w, fun g hg => by simp at hg⟩, RowOf.nil w, RowOf.nil w, RowOf.nil w⟩
  have := cells_ok h0
  obtain ⟨p0, p1, p2, p3, p4, p5, p6, p7, hp⟩ := eight k.p
  obtain ⟨c0, c1, c2, c3, c4, c5, c6, c7, hc⟩ := eight k.c
  obtain ⟨f0, f1, f2, f3, f4, f5, f6, f7, hf⟩ := eight k.f
  clear k
  obtain ⟨phases, groups, conflict, dets, rails, buses, extend, budget, start, revert, least, flash, window, share⟩ := T
  simp only at hp hc hf
  subst hp hc hf
  clear this h0
  constructor
  all_goals try rfl
  case one => simp [Tab.cells, Ph.cells, Value.oneCell']
  intro i p hp
  match i, hp with
  | 0, hp | 1, hp | 2, hp | 3, hp | 4, hp | 5, hp | 6, hp | 7, hp =>
    obtain rfl := Option.some.inj hp
    rfl
  | i + 8, hp => cases hp
/-- The zero table. -/
def zPh : Ph := ⟨false, 0, 0, 0, 0, 0, 0, 0, 0, 0, 0, false, false⟩
def zTab : Tab := ⟨List.replicate 8 zPh, [], List.replicate 8 0, [], [], [], 0, 0, 0, 0, 0, List.replicate 8 0, 0, 0⟩
def zHd : Hd := ⟨⟨none, 0⟩, ⟨none, 0⟩, ⟨none, 0⟩, ⟨none, 0⟩⟩
end Clone
namespace Clone
open Go.ChangeShapes Go.WideShapes Go.ChangeAt Go.RowKit
open Tab Copy Owned
open May (chain infoP infoG infoD infoR infoB infoT take_succ')
/-- The phases of the region that fills one group. -/
def D5 (w : World) (B M : Nat) (L0 L1 L2 L3 : List Blk) (q : Nat) (w' : World) : Prop :=
  Below B w w' ∧ match q with
    | 0 => Owned.Own B w' L0 ∧ w'.heap.size = M + 1
    | 1 => Owned.Own B w' L1 ∧ w'.heap.size = M + 1 + 1
    | 2 => Owned.Own B w' L2 ∧ w'.heap.size = M + 1 + 1 + 1
    | _ => Owned.Own B w' L3
theorem D5.get {w w' : World} {B M q : Nat} {L0 L1 L2 L3 : List Blk} {x : Blk} (h : D5 w B M L0 L1 L2 L3 q w') (h0 : x ∈ L0) (h1 : x ∈ L1) (h2 : x ∈ L2) (h3 : x ∈ L3) : w'.heap[x.at_]? = some (.cells x.cells.toArray x.type (0, 0)) := by
  match q, h with
  | 0, ⟨_, h, _⟩ => exact h.get h0
  | 1, ⟨_, h, _⟩ => exact h.get h1
  | 2, ⟨_, h, _⟩ => exact h.get h2
  | _ + 3, ⟨_, h⟩ => exact h.get h3
end Clone
end Go.Proofs.Ytbpfknkbiaplpaa
