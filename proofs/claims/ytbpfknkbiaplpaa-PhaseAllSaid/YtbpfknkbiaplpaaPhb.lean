/- Package phase: contract of longer. -/
import Derived.Test.YtbpfknkbiaplpaaRu
import Derived.Test.YtbpfknkbiaplpaaPha
namespace Go.Proofs.Ytbpfknkbiaplpaa.Ru
open Go Go.ChangeShapes Go.WideShapes Go.ChangeAt Go.RowKit
open Tab Flat TabArg QL
open May (infoP)
open Ped (ft cu idl Ft infoFt)
open Gap (lm lf gr Tn infoTn)
set_option linter.unusedVariables false
set_option linter.unusedSimpArgs false
set_option maxRecDepth 100000
set_option maxHeartbeats 8000000 in
theorem longer_any (p : Ph) (r : Ru) (c : Cu) (w : World) : Calls Try.prog 28 #[.agg (tuC p r c).toArray] w fun e w' => e = .returned (.agg (Ru.cells (lon p r c)).toArray) ∧ Below w.heap.size w w' := by
  obtain ⟨n1, hn1⟩ : ∃ x, Cnt.more r.tm = x := ⟨_, rfl⟩
  obtain ⟨⟨a, b⟩, hf⟩ : ∃ x, fooA p r c = x := ⟨_, rfl⟩
  obtain ⟨l1, hl1⟩ : ∃ x, lf p.gap r.lf c.he = x := ⟨_, rfl⟩
  obtain ⟨n2, hn2⟩ : ∃ x, Cnt.more r.pr = x := ⟨_, rfl⟩
  obtain ⟨i1, hi1⟩ : ∃ x, idl r.fs = x := ⟨_, rfl⟩
  have HE : Hid (lon p r c = ⟨r.co, n1, a, b, l1, if c.ps then n2 else r.pr, r.ex, r.dn && !(i1 && decide (a = 1)), r.mx && !(i1 && decide (a = 1)), r.tl, r.tu, r.td⟩) := Lib.hid (by unfold lon beg; rw [hn1, hf, hl1, hn2, hi1])
  obtain ⟨ps, hps⟩ : ∃ x, c.ps = x := ⟨_, rfl⟩
  rw [hps] at HE
  have O1 : Hid (∀ W, Calls Try.prog 55 #[.int .i64 r.tm] W fun e w' => e = .returned (.int .i64 n1) ∧ W = w') := Lib.hid (fun W => by rw [← hn1]; exact oneMore_any _ W)
  have O2 : Hid (∀ W, Calls Try.prog 55 #[.int .i64 r.pr] W fun e w' => e = .returned (.int .i64 n2) ∧ W = w') := Lib.hid (fun W => by rw [← hn2]; exact oneMore_any _ W)
  have FO : Hid (∀ W, Calls Try.prog 56 #[.agg (tuC p r c).toArray] W fun e w' => e = .returned (.agg #[I a, I b]) ∧ Below W.heap.size W w') := Lib.hid (fun W => by have := foot_any p r c W; rwa [hf] at this)
  have LE : Hid (∀ W, Calls Try.prog 57 #[.agg p.cells.toArray, .int .i64 r.lf, .bool c.he] W fun e w' => e = .returned (.int .i64 l1) ∧ Below W.heap.size W w') := Lib.hid (fun W => by rw [← hl1]; exact Gap.left_any p _ _ W)
  have SD : Hid (∀ W, Calls Try.prog 53 #[.agg #[I r.fs, I r.ft]] W fun e w' => e = .returned (.bool i1) ∧ Below W.heap.size W w') := Lib.hid (fun W => by rw [← hi1]; exact stands_any _ _ W)
  clear hn1 hf hl1 hn2 hi1
  have hn0 := Blk.Bks.nil w
  have hn1 := hn0.alloc (tuC p r c).toArray 57
  have hn2 := hn1.alloc #[I 0, I 0, I 0, I 0, I 0, I 0, I 0, .bool false, .bool false, I 0, I 0, I 0] 29
  rw [show (w.alloc (.cells (tuC p r c).toArray 57)).heap.size = w.heap.size + 1 by simp] at hn2
  clear hn0
  clear hn1
  go_enter Try.func28, Try.ntmps28
  go_upto_region 1 with fail
  generalize World.alloc (World.alloc w _) _ = v at hn2 ⊢
  generalize hg1 : w.heap.size + 1 = gz at hn2 ⊢
  generalize hg0 : w.heap.size = gt at hn2 ⊢
  clear hg0 hg1
  have H0 := Lib.hid hn2
  clear hn2
  go_upto_region 2 with (first | (refine Row.wpList_load_g 29 _ rfl (by first | rfl | (go_simp; done) | fail) ⟨gt, 13, none⟩ rfl r.cells _ (seg H0.out 1 13 rfl _ rfl) Try.underlying29 rfl infoRu ?_) | (refine Row.wpList_store_new rfl 29 _ _ rfl _ _ (Ru.cells r).toArray rfl rfl rfl infoRu rfl (one_ru _) ?_))
  have hn := H0.out.alloc (Ru.cells r).toArray 29
  generalize World.alloc v _ = v1 at hn ⊢
  generalize v.heap.size = gn at hn ⊢
  have H1 := Lib.hid hn
  clear hn
  clear H0
  have t_rtm : v1.cell? ⟨gt, 14, none⟩ = some (I r.tm) := H1.out.cell 2 14 rfl rfl
  have n_tm : v1.cell? ⟨gn, 1, none⟩ = some (I r.tm) := H1.out.cell 0 1 rfl rfl
  have f_tm : v1.frozen? ⟨gn, 1, none⟩ = false := H1.out.frozen 0 1 rfl
  go_upto_region 3 with (go_at_call 55; with_reducible refine (O1.out _).mono ?_; rintro e w' ⟨rfl, rfl⟩)
  have hput := H1.out.set 0 1 rfl (I n1)
  rw [show Array.setIfInBounds _ 1 (I n1) = (Ru.cells ⟨r.co, n1, r.fs, r.ft, r.lf, r.pr, r.ex, r.dn, r.mx, r.tl, r.tu, r.td⟩).toArray from rfl] at hput
  simp only [List.set_cons_succ, List.set_cons_zero] at hput
  generalize World.setCell v1 _ _ = v2 at hput ⊢
  have H2 := Lib.hid hput
  clear hput
  clear H1 t_rtm n_tm f_tm
  go_wp2_with (refine Row.wpList_load_g 57 _ rfl (by first | rfl | (go_simp; done) | fail) ⟨gt, 0, none⟩ rfl (tuC p r c) _ (seg H2.out 2 0 rfl _ rfl) Try.underlying57 rfl infoTu ?_)
  refine (FO.out _).mono ?_
  rintro e v3 ⟨rfl, bc⟩
  have H3 := Lib.hid (H2.out.step bc)
  clear bc
  go_upto_region 4 with (refine store_mid rfl 25 _ _ rfl gn 2 #[I a, I b] rfl rfl 29 _ (Ru.cells ⟨r.co, n1, a, b, r.lf, r.pr, r.ex, r.dn, r.mx, r.tl, r.tu, r.td⟩).toArray H3.out 0 rfl infoFt (by first | decide | (simp [Ru.cells]; done) | fail) (by simp [Value.oneCell']) rfl ?_)
  have hput := H3.out.put 0 rfl (Ru.cells ⟨r.co, n1, a, b, r.lf, r.pr, r.ex, r.dn, r.mx, r.tl, r.tu, r.td⟩).toArray
  simp only [List.set_cons_succ, List.set_cons_zero] at hput
  generalize World.setRow _ gn _ = v4 at hput ⊢
  have H4 := Lib.hid hput
  clear hput
  clear H2 H3 FO
  have t_rlf : v4.cell? ⟨gt, 17, none⟩ = some (I r.lf) := H4.out.cell 2 17 rfl rfl
  have t_che : v4.cell? ⟨gt, 27, none⟩ = some (.bool c.he) := H4.out.cell 2 27 rfl rfl
  go_wp2_with (refine Row.wpList_load_g 23 _ rfl (by first | rfl | (go_simp; done) | fail) ⟨gt, 0, none⟩ rfl p.cells _ (seg H4.out 2 0 rfl _ rfl) Try.underlying23 rfl infoP ?_)
  refine (LE.out _).mono ?_
  rintro e v5 ⟨rfl, bc⟩
  have H5 := Lib.hid (H4.out.step bc)
  clear bc
  clear t_rlf t_che
  have n_lf : v5.cell? ⟨gn, 4, none⟩ = some (I r.lf) := H5.out.cell 0 4 rfl rfl
  have f_lf : v5.frozen? ⟨gn, 4, none⟩ = false := H5.out.frozen 0 4 rfl
  go_upto_region 5 with fail
  have hput := H5.out.set 0 4 rfl (I l1)
  rw [show Array.setIfInBounds _ 4 (I l1) = (Ru.cells ⟨r.co, n1, a, b, l1, r.pr, r.ex, r.dn, r.mx, r.tl, r.tu, r.td⟩).toArray from rfl] at hput
  simp only [List.set_cons_succ, List.set_cons_zero] at hput
  generalize World.setCell v5 _ _ = v6 at hput ⊢
  have H6 := Lib.hid hput
  clear hput
  clear H4 H5 LE n_lf f_lf
  have t_cps : v6.cell? ⟨gt, 29, none⟩ = some (.bool c.ps) := H6.out.cell 2 29 rfl rfl
  rw [hps] at t_cps
  cases ps
  · replace HE : Hid (lon p r c = _) := Lib.hid (HE.out.trans (by rw [if_neg (by simp)]))
    go_upto_region 7 with fail
    (try clear t_cps)
    go_wp2_with (refine Row.wpList_load_g 25 _ rfl (by first | rfl | (go_simp; done) | fail) ⟨gt, 15, none⟩ rfl [I r.fs, I r.ft] _ (seg H6.out 2 15 rfl _ rfl) Try.underlying25 rfl infoFt ?_)
    refine (SD.out _).mono ?_
    rintro e v8 ⟨rfl, bc⟩
    have H8 := Lib.hid (H6.out.step bc)
    clear bc
    cases i1
    · replace HE : Hid (lon p r c = ⟨r.co, n1, a, b, l1, r.pr, r.ex, r.dn, r.mx, r.tl, r.tu, r.td⟩) := Lib.hid (by rw [HE.out]; simp)
      go_upto_region 9 with fail
      go_wp2_with (first | (refine Row.wpList_load_g 29 _ rfl (by first | rfl | (go_simp; done) | fail) ⟨gn, 0, none⟩ rfl (Ru.cells ⟨r.co, n1, a, b, l1, r.pr, r.ex, r.dn, r.mx, r.tl, r.tu, r.td⟩) _ (seg H8.out 0 0 rfl _ rfl) Try.underlying29 rfl infoRu ?_) | (refine wpList_store_row rfl 29 _ _ rfl gz (Ru.cells ⟨r.co, n1, a, b, l1, r.pr, r.ex, r.dn, r.mx, r.tl, r.tu, r.td⟩).toArray rfl rfl 29 _ (H8.out.at 1 rfl) infoRu rfl (one_ru _) ?_))
      have hput := H8.out.put 1 rfl (Ru.cells ⟨r.co, n1, a, b, l1, r.pr, r.ex, r.dn, r.mx, r.tl, r.tu, r.td⟩).toArray
      simp only [List.set_cons_succ, List.set_cons_zero] at hput
      generalize World.setRow v8 gz _ = vz at hput ⊢
      have HG := Lib.hid hput
      clear hput
      go_wp2_with fail
      (try simp only [Exit.inBlock, Exit.then])
      refine bodyPost_ret (v := .agg (Ru.cells ⟨r.co, n1, a, b, l1, r.pr, r.ex, r.dn, r.mx, r.tl, r.tu, r.td⟩).toArray) ?_ rfl ⟨ret_ru HE.out.symm, HG.out.bel⟩
      exact results_cell_row rfl _ _ gz 29 _ (0, 0) _ rfl (HG.out.at 1 rfl) Try.underlying29 rfl infoRu
    by_cases h1 : a = 1
    · subst h1
      replace HE : Hid (lon p r c = ⟨r.co, n1, 1, b, l1, r.pr, r.ex, false, false, r.tl, r.tu, r.td⟩) := Lib.hid (by rw [HE.out]; simp)
      have n_fs : v8.cell? ⟨gn, 2, none⟩ = some (I 1) := H8.out.cell 0 2 rfl rfl
      go_upto_region 8 with fail
      clear n_fs
      have n_dn : v8.cell? ⟨gn, 7, none⟩ = some (.bool r.dn) := H8.out.cell 0 7 rfl rfl
      have f_dn : v8.frozen? ⟨gn, 7, none⟩ = false := H8.out.frozen 0 7 rfl
      have n_mx : v8.cell? ⟨gn, 8, none⟩ = some (.bool r.mx) := H8.out.cell 0 8 rfl rfl
      have f_mx : v8.frozen? ⟨gn, 8, none⟩ = false := H8.out.frozen 0 8 rfl
      go_upto_region 9 with fail
      have hput := (H8.out.set 0 7 rfl (.bool false)).set 0 8 rfl (.bool false)
      rw [show Array.setIfInBounds (Array.setIfInBounds _ 7 (.bool false)) 8 (.bool false) = (Ru.cells ⟨r.co, n1, 1, b, l1, r.pr, r.ex, false, false, r.tl, r.tu, r.td⟩).toArray from rfl] at hput
      simp only [List.set_cons_succ, List.set_cons_zero] at hput
      generalize World.setCell (World.setCell v8 _ _) _ _ = v9 at hput ⊢
      have H9 := Lib.hid hput
      clear hput n_dn f_dn n_mx f_mx
      go_wp2_with (first | (refine Row.wpList_load_g 29 _ rfl (by first | rfl | (go_simp; done) | fail) ⟨gn, 0, none⟩ rfl (Ru.cells ⟨r.co, n1, 1, b, l1, r.pr, r.ex, false, false, r.tl, r.tu, r.td⟩) _ (seg H9.out 0 0 rfl _ rfl) Try.underlying29 rfl infoRu ?_) | (refine wpList_store_row rfl 29 _ _ rfl gz (Ru.cells ⟨r.co, n1, 1, b, l1, r.pr, r.ex, false, false, r.tl, r.tu, r.td⟩).toArray rfl rfl 29 _ (H9.out.at 1 rfl) infoRu rfl (one_ru _) ?_))
      have hput := H9.out.put 1 rfl (Ru.cells ⟨r.co, n1, 1, b, l1, r.pr, r.ex, false, false, r.tl, r.tu, r.td⟩).toArray
      simp only [List.set_cons_succ, List.set_cons_zero] at hput
      generalize World.setRow v9 gz _ = vz at hput ⊢
      have HG := Lib.hid hput
      clear hput
      go_wp2_with fail
      (try simp only [Exit.inBlock, Exit.then])
      refine bodyPost_ret (v := .agg (Ru.cells ⟨r.co, n1, 1, b, l1, r.pr, r.ex, false, false, r.tl, r.tu, r.td⟩).toArray) ?_ rfl ⟨ret_ru HE.out.symm, HG.out.bel⟩
      exact results_cell_row rfl _ _ gz 29 _ (0, 0) _ rfl (HG.out.at 1 rfl) Try.underlying29 rfl infoRu
    · replace HE : Hid (lon p r c = ⟨r.co, n1, a, b, l1, r.pr, r.ex, r.dn, r.mx, r.tl, r.tu, r.td⟩) := Lib.hid (by rw [HE.out]; simp [h1])
      have n_fs : v8.cell? ⟨gn, 2, none⟩ = some (I a) := H8.out.cell 0 2 rfl rfl
      go_upto_region 9 with fail
      clear n_fs
      go_wp2_with (first | (refine Row.wpList_load_g 29 _ rfl (by first | rfl | (go_simp; done) | fail) ⟨gn, 0, none⟩ rfl (Ru.cells ⟨r.co, n1, a, b, l1, r.pr, r.ex, r.dn, r.mx, r.tl, r.tu, r.td⟩) _ (seg H8.out 0 0 rfl _ rfl) Try.underlying29 rfl infoRu ?_) | (refine wpList_store_row rfl 29 _ _ rfl gz (Ru.cells ⟨r.co, n1, a, b, l1, r.pr, r.ex, r.dn, r.mx, r.tl, r.tu, r.td⟩).toArray rfl rfl 29 _ (H8.out.at 1 rfl) infoRu rfl (one_ru _) ?_))
      have hput := H8.out.put 1 rfl (Ru.cells ⟨r.co, n1, a, b, l1, r.pr, r.ex, r.dn, r.mx, r.tl, r.tu, r.td⟩).toArray
      simp only [List.set_cons_succ, List.set_cons_zero] at hput
      generalize World.setRow v8 gz _ = vz at hput ⊢
      have HG := Lib.hid hput
      clear hput
      go_wp2_with fail
      (try simp only [Exit.inBlock, Exit.then])
      refine bodyPost_ret (v := .agg (Ru.cells ⟨r.co, n1, a, b, l1, r.pr, r.ex, r.dn, r.mx, r.tl, r.tu, r.td⟩).toArray) ?_ rfl ⟨ret_ru HE.out.symm, HG.out.bel⟩
      exact results_cell_row rfl _ _ gz 29 _ (0, 0) _ rfl (HG.out.at 1 rfl) Try.underlying29 rfl infoRu
  · replace HE : Hid (lon p r c = _) := Lib.hid (HE.out.trans (by rw [if_pos rfl]))
    go_upto_region 6 with fail
    clear t_cps
    have t_rpr : v6.cell? ⟨gt, 18, none⟩ = some (I r.pr) := H6.out.cell 2 18 rfl rfl
    have n_pr : v6.cell? ⟨gn, 5, none⟩ = some (I r.pr) := H6.out.cell 0 5 rfl rfl
    have f_pr : v6.frozen? ⟨gn, 5, none⟩ = false := H6.out.frozen 0 5 rfl
    go_upto_region 7 with (go_at_call 55; with_reducible refine (O2.out _).mono ?_; rintro e w' ⟨rfl, rfl⟩)
    have hput := H6.out.set 0 5 rfl (I n2)
    rw [show Array.setIfInBounds _ 5 (I n2) = (Ru.cells ⟨r.co, n1, a, b, l1, n2, r.ex, r.dn, r.mx, r.tl, r.tu, r.td⟩).toArray from rfl] at hput
    simp only [List.set_cons_succ, List.set_cons_zero] at hput
    generalize World.setCell v6 _ _ = v7 at hput ⊢
    have H7 := Lib.hid hput
    clear hput
    clear t_rpr n_pr f_pr H6
    go_upto_region 7 with fail
    (try clear t_cps)
    go_wp2_with (refine Row.wpList_load_g 25 _ rfl (by first | rfl | (go_simp; done) | fail) ⟨gt, 15, none⟩ rfl [I r.fs, I r.ft] _ (seg H7.out 2 15 rfl _ rfl) Try.underlying25 rfl infoFt ?_)
    refine (SD.out _).mono ?_
    rintro e v8 ⟨rfl, bc⟩
    have H8 := Lib.hid (H7.out.step bc)
    clear bc
    cases i1
    · replace HE : Hid (lon p r c = ⟨r.co, n1, a, b, l1, n2, r.ex, r.dn, r.mx, r.tl, r.tu, r.td⟩) := Lib.hid (by rw [HE.out]; simp)
      go_upto_region 9 with fail
      go_wp2_with (first | (refine Row.wpList_load_g 29 _ rfl (by first | rfl | (go_simp; done) | fail) ⟨gn, 0, none⟩ rfl (Ru.cells ⟨r.co, n1, a, b, l1, n2, r.ex, r.dn, r.mx, r.tl, r.tu, r.td⟩) _ (seg H8.out 0 0 rfl _ rfl) Try.underlying29 rfl infoRu ?_) | (refine wpList_store_row rfl 29 _ _ rfl gz (Ru.cells ⟨r.co, n1, a, b, l1, n2, r.ex, r.dn, r.mx, r.tl, r.tu, r.td⟩).toArray rfl rfl 29 _ (H8.out.at 1 rfl) infoRu rfl (one_ru _) ?_))
      have hput := H8.out.put 1 rfl (Ru.cells ⟨r.co, n1, a, b, l1, n2, r.ex, r.dn, r.mx, r.tl, r.tu, r.td⟩).toArray
      simp only [List.set_cons_succ, List.set_cons_zero] at hput
      generalize World.setRow v8 gz _ = vz at hput ⊢
      have HG := Lib.hid hput
      clear hput
      go_wp2_with fail
      (try simp only [Exit.inBlock, Exit.then])
      refine bodyPost_ret (v := .agg (Ru.cells ⟨r.co, n1, a, b, l1, n2, r.ex, r.dn, r.mx, r.tl, r.tu, r.td⟩).toArray) ?_ rfl ⟨ret_ru HE.out.symm, HG.out.bel⟩
      exact results_cell_row rfl _ _ gz 29 _ (0, 0) _ rfl (HG.out.at 1 rfl) Try.underlying29 rfl infoRu
    by_cases h1 : a = 1
    · subst h1
      replace HE : Hid (lon p r c = ⟨r.co, n1, 1, b, l1, n2, r.ex, false, false, r.tl, r.tu, r.td⟩) := Lib.hid (by rw [HE.out]; simp)
      have n_fs : v8.cell? ⟨gn, 2, none⟩ = some (I 1) := H8.out.cell 0 2 rfl rfl
      go_upto_region 8 with fail
      clear n_fs
      have n_dn : v8.cell? ⟨gn, 7, none⟩ = some (.bool r.dn) := H8.out.cell 0 7 rfl rfl
      have f_dn : v8.frozen? ⟨gn, 7, none⟩ = false := H8.out.frozen 0 7 rfl
      have n_mx : v8.cell? ⟨gn, 8, none⟩ = some (.bool r.mx) := H8.out.cell 0 8 rfl rfl
      have f_mx : v8.frozen? ⟨gn, 8, none⟩ = false := H8.out.frozen 0 8 rfl
      go_upto_region 9 with fail
      have hput := (H8.out.set 0 7 rfl (.bool false)).set 0 8 rfl (.bool false)
      rw [show Array.setIfInBounds (Array.setIfInBounds _ 7 (.bool false)) 8 (.bool false) = (Ru.cells ⟨r.co, n1, 1, b, l1, n2, r.ex, false, false, r.tl, r.tu, r.td⟩).toArray from rfl] at hput
      simp only [List.set_cons_succ, List.set_cons_zero] at hput
      generalize World.setCell (World.setCell v8 _ _) _ _ = v9 at hput ⊢
      have H9 := Lib.hid hput
      clear hput n_dn f_dn n_mx f_mx
      go_wp2_with (first | (refine Row.wpList_load_g 29 _ rfl (by first | rfl | (go_simp; done) | fail) ⟨gn, 0, none⟩ rfl (Ru.cells ⟨r.co, n1, 1, b, l1, n2, r.ex, false, false, r.tl, r.tu, r.td⟩) _ (seg H9.out 0 0 rfl _ rfl) Try.underlying29 rfl infoRu ?_) | (refine wpList_store_row rfl 29 _ _ rfl gz (Ru.cells ⟨r.co, n1, 1, b, l1, n2, r.ex, false, false, r.tl, r.tu, r.td⟩).toArray rfl rfl 29 _ (H9.out.at 1 rfl) infoRu rfl (one_ru _) ?_))
      have hput := H9.out.put 1 rfl (Ru.cells ⟨r.co, n1, 1, b, l1, n2, r.ex, false, false, r.tl, r.tu, r.td⟩).toArray
      simp only [List.set_cons_succ, List.set_cons_zero] at hput
      generalize World.setRow v9 gz _ = vz at hput ⊢
      have HG := Lib.hid hput
      clear hput
      go_wp2_with fail
      (try simp only [Exit.inBlock, Exit.then])
      refine bodyPost_ret (v := .agg (Ru.cells ⟨r.co, n1, 1, b, l1, n2, r.ex, false, false, r.tl, r.tu, r.td⟩).toArray) ?_ rfl ⟨ret_ru HE.out.symm, HG.out.bel⟩
      exact results_cell_row rfl _ _ gz 29 _ (0, 0) _ rfl (HG.out.at 1 rfl) Try.underlying29 rfl infoRu
    · replace HE : Hid (lon p r c = ⟨r.co, n1, a, b, l1, n2, r.ex, r.dn, r.mx, r.tl, r.tu, r.td⟩) := Lib.hid (by rw [HE.out]; simp [h1])
      have n_fs : v8.cell? ⟨gn, 2, none⟩ = some (I a) := H8.out.cell 0 2 rfl rfl
      go_upto_region 9 with fail
      clear n_fs
      go_wp2_with (first | (refine Row.wpList_load_g 29 _ rfl (by first | rfl | (go_simp; done) | fail) ⟨gn, 0, none⟩ rfl (Ru.cells ⟨r.co, n1, a, b, l1, n2, r.ex, r.dn, r.mx, r.tl, r.tu, r.td⟩) _ (seg H8.out 0 0 rfl _ rfl) Try.underlying29 rfl infoRu ?_) | (refine wpList_store_row rfl 29 _ _ rfl gz (Ru.cells ⟨r.co, n1, a, b, l1, n2, r.ex, r.dn, r.mx, r.tl, r.tu, r.td⟩).toArray rfl rfl 29 _ (H8.out.at 1 rfl) infoRu rfl (one_ru _) ?_))
      have hput := H8.out.put 1 rfl (Ru.cells ⟨r.co, n1, a, b, l1, n2, r.ex, r.dn, r.mx, r.tl, r.tu, r.td⟩).toArray
      simp only [List.set_cons_succ, List.set_cons_zero] at hput
      generalize World.setRow v8 gz _ = vz at hput ⊢
      have HG := Lib.hid hput
      clear hput
      go_wp2_with fail
      (try simp only [Exit.inBlock, Exit.then])
      refine bodyPost_ret (v := .agg (Ru.cells ⟨r.co, n1, a, b, l1, n2, r.ex, r.dn, r.mx, r.tl, r.tu, r.td⟩).toArray) ?_ rfl ⟨ret_ru HE.out.symm, HG.out.bel⟩
      exact results_cell_row rfl _ _ gz 29 _ (0, 0) _ rfl (HG.out.at 1 rfl) Try.underlying29 rfl infoRu
end Go.Proofs.Ytbpfknkbiaplpaa.Ru
