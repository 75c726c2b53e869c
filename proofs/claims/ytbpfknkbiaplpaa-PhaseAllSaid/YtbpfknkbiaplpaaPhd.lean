/- Package phase: the ways of a tick. -/
import Derived.Test.YtbpfknkbiaplpaaRu
import Derived.Test.YtbpfknkbiaplpaaPhb
import Derived.Test.YtbpfknkbiaplpaaPhc
namespace Go.Proofs.Ytbpfknkbiaplpaa.Ru
open Go Go.ChangeShapes Go.WideShapes Go.ChangeAt Go.RowKit
open Tab Flat TabArg QL
open May (infoP)
open Ped (ft cu idl Ft infoFt)
open Gap (lm lf gr Tn infoTn)
set_option linter.unusedVariables false
set_option linter.unusedSimpArgs false
set_option maxRecDepth 100000
set_option maxHeartbeats 4000000 in
theorem end_any (p : Ph) (r : Ru) (c : Cu) (w : World) : Calls Try.prog 44 #[.agg (tuC p r c).toArray] w fun e w' => e = .returned (.agg (Ru.cells (fin p r)).toArray) ∧ Below w.heap.size w w' := by
  obtain ⟨⟨x, y, z⟩, ht⟩ : ∃ t, tre p r = t := ⟨_, rfl⟩
  have HE : Hid (fin p r = ⟨2, 1, 0, 0, 0, 0, 0, false, false, x, y, z⟩) := Lib.hid (by unfold fin; rw [ht])
  obtain ⟨dn, hdn⟩ : ∃ x, r.dn = x := ⟨_, rfl⟩
  unfold tre at ht
  rw [hdn] at ht
  have F1 : Hid (∀ W, Calls Try.prog 69 #[.agg (tuC p r c).toArray, .int .i64 2] W fun e w' => e = .returned (.agg (Ru.cells (fst r 2)).toArray) ∧ Below W.heap.size W w') := Lib.hid (fun W => first_any p r c 2 W)
  have hn0 := Blk.Bks.nil w
  have hn1 := hn0.alloc (tuC p r c).toArray 57
  have hn2 := hn1.alloc #[I 0, I 0, I 0, I 0, I 0, I 0, I 0, .bool false, .bool false, I 0, I 0, I 0] 29
  rw [show (w.alloc (.cells (tuC p r c).toArray 57)).heap.size = w.heap.size + 1 by simp] at hn2
  clear hn0
  clear hn1
  go_enter Try.func44, Try.ntmps44
  go_upto_region 1 with fail
  generalize World.alloc (World.alloc w _) _ = v at hn2 ⊢
  generalize hg1 : w.heap.size + 1 = gz at hn2 ⊢
  generalize hg0 : w.heap.size = gt at hn2 ⊢
  clear hg0 hg1
  have H0 := Lib.hid hn2
  clear hn2
  go_wp2_with (refine Row.wpList_load_g 57 _ rfl (by first | rfl | (go_simp; done) | fail) ⟨gt, 0, none⟩ rfl (tuC p r c) _ (seg H0.out 1 0 rfl _ rfl) Try.underlying57 rfl infoTu ?_)
  refine (F1.out _).mono ?_
  rintro e v1 ⟨rfl, bc⟩
  have H1 := Lib.hid (H0.out.step bc)
  clear bc
  go_upto_region 2 with (refine Row.wpList_store_new rfl 29 _ _ rfl _ _ (Ru.cells (fst r 2)).toArray rfl rfl rfl infoRu rfl (one_ru _) ?_)
  have hn := H1.out.alloc (Ru.cells (fst r 2)).toArray 29
  generalize World.alloc v1 _ = v2 at hn ⊢
  generalize v1.heap.size = gn at hn ⊢
  have H2 := Lib.hid hn
  clear hn
  clear H0 H1 F1
  have t_rdn : v2.cell? ⟨gt, 20, none⟩ = some (.bool r.dn) := H2.out.cell 2 20 rfl rfl
  rw [hdn] at t_rdn
  cases dn
  · rw [if_neg (by simp)] at ht
    injection ht with e1 e2 e3
    subst e1 e2 e3
    go_upto_region 4 with fail
    go_wp2_with (first | (refine Row.wpList_load_g 29 _ rfl (by first | rfl | (go_simp; done) | fail) ⟨gn, 0, none⟩ rfl (Ru.cells ⟨2, 1, 0, 0, 0, 0, 0, false, false, r.tl, r.tu, r.td⟩) _ (seg H2.out 0 0 rfl _ rfl) Try.underlying29 rfl infoRu ?_) | (refine wpList_store_row rfl 29 _ _ rfl gz (Ru.cells ⟨2, 1, 0, 0, 0, 0, 0, false, false, r.tl, r.tu, r.td⟩).toArray rfl rfl 29 _ (H2.out.at 1 rfl) infoRu rfl (one_ru _) ?_))
    have hput := H2.out.put 1 rfl (Ru.cells ⟨2, 1, 0, 0, 0, 0, 0, false, false, r.tl, r.tu, r.td⟩).toArray
    simp only [List.set_cons_succ, List.set_cons_zero] at hput
    generalize World.setRow v2 gz _ = vz at hput ⊢
    have HG := Lib.hid hput
    clear hput
    go_wp2_with fail
    (try simp only [Exit.inBlock, Exit.then])
    refine bodyPost_ret (v := .agg (Ru.cells ⟨2, 1, 0, 0, 0, 0, 0, false, false, r.tl, r.tu, r.td⟩).toArray) ?_ rfl ⟨ret_ru HE.out.symm, HG.out.bel⟩
    exact results_cell_row rfl _ _ gz 29 _ (0, 0) _ rfl (HG.out.at 1 rfl) Try.underlying29 rfl infoRu
  · rw [if_pos rfl] at ht
    have GR : Hid (∀ W, Calls Try.prog 70 #[.agg p.cells.toArray, .agg #[I r.tl, I r.tu, I r.td], .bool r.mx] W fun e w' => e = .returned (.agg #[I x, I y, I z]) ∧ Below W.heap.size W w') := Lib.hid (fun W => Gap.grow_is ht W)
    clear ht
    go_upto_region 3 with fail
    clear t_rdn
    have t_rmx : v2.cell? ⟨gt, 21, none⟩ = some (.bool r.mx) := H2.out.cell 2 21 rfl rfl
    go_wp2_with (first | (refine Row.wpList_load_g 23 _ rfl (by first | rfl | (go_simp; done) | fail) ⟨gt, 0, none⟩ rfl p.cells _ (seg H2.out 2 0 rfl _ rfl) Try.underlying23 rfl infoP ?_) | (refine Row.wpList_load_g 27 _ rfl (by first | rfl | (go_simp; done) | fail) ⟨gt, 22, none⟩ rfl [I r.tl, I r.tu, I r.td] _ (seg H2.out 2 22 rfl _ rfl) Try.underlying27 rfl infoTn ?_))
    refine (GR.out _).mono ?_
    rintro e v3 ⟨rfl, bc⟩
    have H3 := Lib.hid (H2.out.step bc)
    clear bc
    go_upto_region 4 with (refine store_mid rfl 27 _ _ rfl gn 9 #[I x, I y, I z] rfl rfl 29 _ (Ru.cells ⟨2, 1, 0, 0, 0, 0, 0, false, false, x, y, z⟩).toArray H3.out 0 rfl infoTn (by first | decide | (simp [Ru.cells]; done) | fail) (by simp [Value.oneCell']) rfl ?_)
    have hput := H3.out.put 0 rfl (Ru.cells ⟨2, 1, 0, 0, 0, 0, 0, false, false, x, y, z⟩).toArray
    simp only [List.set_cons_succ, List.set_cons_zero] at hput
    generalize World.setRow _ gn _ = v4 at hput ⊢
    have H4 := Lib.hid hput
    clear hput
    clear H2 H3 GR t_rmx
    go_wp2_with (first | (refine Row.wpList_load_g 29 _ rfl (by first | rfl | (go_simp; done) | fail) ⟨gn, 0, none⟩ rfl (Ru.cells ⟨2, 1, 0, 0, 0, 0, 0, false, false, x, y, z⟩) _ (seg H4.out 0 0 rfl _ rfl) Try.underlying29 rfl infoRu ?_) | (refine wpList_store_row rfl 29 _ _ rfl gz (Ru.cells ⟨2, 1, 0, 0, 0, 0, 0, false, false, x, y, z⟩).toArray rfl rfl 29 _ (H4.out.at 1 rfl) infoRu rfl (one_ru _) ?_))
    have hput := H4.out.put 1 rfl (Ru.cells ⟨2, 1, 0, 0, 0, 0, 0, false, false, x, y, z⟩).toArray
    simp only [List.set_cons_succ, List.set_cons_zero] at hput
    generalize World.setRow v4 gz _ = vz at hput ⊢
    have HG := Lib.hid hput
    clear hput
    go_wp2_with fail
    (try simp only [Exit.inBlock, Exit.then])
    refine bodyPost_ret (v := .agg (Ru.cells ⟨2, 1, 0, 0, 0, 0, 0, false, false, x, y, z⟩).toArray) ?_ rfl ⟨ret_ru HE.out.symm, HG.out.bel⟩
    exact results_cell_row rfl _ _ gz 29 _ (0, 0) _ rfl (HG.out.at 1 rfl) Try.underlying29 rfl infoRu
set_option maxHeartbeats 8000000 in
theorem stay_any (p : Ph) (r : Ru) (c : Cu) (w : World) : Calls Try.prog 45 #[.agg (tuC p r c).toArray] w fun e w' => e = .returned (.agg (Ru.cells (sty p c (lon p r c))).toArray) ∧ Below w.heap.size w w' := by
  obtain ⟨n, hn⟩ : ∃ n, lon p r c = n := ⟨_, rfl⟩
  rw [hn]
  obtain ⟨du, hdu⟩ : ∃ x, duB p c n = x := ⟨_, rfl⟩
  obtain ⟨fu, hfu⟩ : ∃ x, fuB p n = x := ⟨_, rfl⟩
  obtain ⟨ex, hex⟩ : ∃ x, Cnt.more n.ex = x := ⟨_, rfl⟩
  obtain ⟨ho, hho⟩ : ∃ x, c.ho = x := ⟨_, rfl⟩
  have HE : Hid (sty p c n = if du then (if ho then { n with ex := ex } else { n with dn := true, mx := decide (0 < n.lf) && fu }) else n) := Lib.hid (by unfold sty; rw [hdu, hfu, hex, hho])
  have LO : Hid (∀ W, Calls Try.prog 28 #[.agg (tuC p r c).toArray] W fun e w' => e = .returned (.agg n.cells.toArray) ∧ Below W.heap.size W w') := Lib.hid (fun W => by rw [← hn]; exact longer_any p r c W)
  have DU : Hid (∀ W, Calls Try.prog 27 #[.agg (tuC p r c).toArray, .agg n.cells.toArray] W fun e w' => e = .returned (.bool du) ∧ Below W.heap.size W w') := Lib.hid (fun W => by rw [← hdu]; exact due_any p r c n W)
  have FU : Hid (∀ W, Calls Try.prog 54 #[.agg (tuC p r c).toArray, .agg n.cells.toArray] W fun e w' => e = .returned (.bool fu) ∧ Below W.heap.size W w') := Lib.hid (fun W => by rw [← hfu]; exact full_any p r c n W)
  have OM : Hid (∀ W, Calls Try.prog 55 #[.int .i64 n.ex] W fun e w' => e = .returned (.int .i64 ex) ∧ W = w') := Lib.hid (fun W => by rw [← hex]; exact oneMore_any _ W)
  clear hn hdu hfu hex
  have hn0 := Blk.Bks.nil w
  have hn1 := hn0.alloc (tuC p r c).toArray 57
  have hn2 := hn1.alloc #[I 0, I 0, I 0, I 0, I 0, I 0, I 0, .bool false, .bool false, I 0, I 0, I 0] 29
  rw [show (w.alloc (.cells (tuC p r c).toArray 57)).heap.size = w.heap.size + 1 by simp] at hn2
  clear hn0
  clear hn1
  go_enter Try.func45, Try.ntmps45
  go_upto_region 1 with fail
  generalize World.alloc (World.alloc w _) _ = v at hn2 ⊢
  generalize hg1 : w.heap.size + 1 = gz at hn2 ⊢
  generalize hg0 : w.heap.size = gt at hn2 ⊢
  clear hg0 hg1
  have H0 := Lib.hid hn2
  clear hn2
  go_wp2_with (refine Row.wpList_load_g 57 _ rfl (by first | rfl | (go_simp; done) | fail) ⟨gt, 0, none⟩ rfl (tuC p r c) _ (seg H0.out 1 0 rfl _ rfl) Try.underlying57 rfl infoTu ?_)
  refine (LO.out _).mono ?_
  rintro e v1 ⟨rfl, bc⟩
  have H1 := Lib.hid (H0.out.step bc)
  clear bc
  go_upto_region 2 with (refine Row.wpList_store_new rfl 29 _ _ rfl _ _ n.cells.toArray rfl rfl rfl infoRu rfl (one_ru _) ?_)
  have hn := H1.out.alloc n.cells.toArray 29
  generalize World.alloc v1 _ = v2 at hn ⊢
  generalize v1.heap.size = gn at hn ⊢
  have H2 := Lib.hid hn
  clear hn
  clear H0 H1 LO
  go_wp2_with (first | (refine Row.wpList_load_g 57 _ rfl (by first | rfl | (go_simp; done) | fail) ⟨gt, 0, none⟩ rfl (tuC p r c) _ (seg H2.out 2 0 rfl _ rfl) Try.underlying57 rfl infoTu ?_) | (refine Row.wpList_load_g 29 _ rfl (by first | rfl | (go_simp; done) | fail) ⟨gn, 0, none⟩ rfl n.cells _ (seg H2.out 0 0 rfl _ rfl) Try.underlying29 rfl infoRu ?_))
  refine (DU.out _).mono ?_
  rintro e v3 ⟨rfl, bc⟩
  have H3 := Lib.hid (H2.out.step bc)
  clear bc
  clear H2 DU
  cases du
  · replace HE : Hid (sty p c n = n) := Lib.hid (HE.out.trans (if_neg (by simp)))
    go_upto_region 3 with fail
    go_wp2_with (first | (refine Row.wpList_load_g 29 _ rfl (by first | rfl | (go_simp; done) | fail) ⟨gn, 0, none⟩ rfl n.cells _ (seg H3.out 0 0 rfl _ rfl) Try.underlying29 rfl infoRu ?_) | (refine wpList_store_row rfl 29 _ _ rfl gz n.cells.toArray rfl rfl 29 _ (H3.out.at 1 rfl) infoRu rfl (one_ru _) ?_))
    have hput := H3.out.put 1 rfl n.cells.toArray
    simp only [List.set_cons_succ, List.set_cons_zero] at hput
    generalize World.setRow v3 gz _ = vz at hput ⊢
    have HG := Lib.hid hput
    clear hput
    go_wp2_with fail
    (try simp only [Exit.inBlock, Exit.then])
    refine bodyPost_ret (v := .agg n.cells.toArray) ?_ rfl ⟨ret_ru HE.out.symm, HG.out.bel⟩
    exact results_cell_row rfl _ _ gz 29 _ (0, 0) _ rfl (HG.out.at 1 rfl) Try.underlying29 rfl infoRu
  replace HE := Lib.hid (HE.out.trans (if_pos rfl))
  go_upto_region 4 with fail
  have t_cho : v3.cell? ⟨gt, 30, none⟩ = some (.bool c.ho) := H3.out.cell 2 30 rfl rfl
  rw [hho] at t_cho
  cases ho
  rotate_left
  · replace HE : Hid (sty p c n = ⟨n.co, n.tm, n.fs, n.ft, n.lf, n.pr, ex, n.dn, n.mx, n.tl, n.tu, n.td⟩) := Lib.hid (HE.out.trans (if_pos rfl))
    go_upto_region 5 with fail
    clear t_cho
    have n_ex : v3.cell? ⟨gn, 6, none⟩ = some (I n.ex) := H3.out.cell 0 6 rfl rfl
    have f_ex : v3.frozen? ⟨gn, 6, none⟩ = false := H3.out.frozen 0 6 rfl
    go_upto_region 6 with (go_at_call 55; with_reducible refine (OM.out _).mono ?_; rintro e w' ⟨rfl, rfl⟩)
    have hput := H3.out.set 0 6 rfl (I ex)
    rw [show Array.setIfInBounds _ 6 (I ex) = (Ru.cells ⟨n.co, n.tm, n.fs, n.ft, n.lf, n.pr, ex, n.dn, n.mx, n.tl, n.tu, n.td⟩).toArray from rfl] at hput
    simp only [List.set_cons_succ, List.set_cons_zero] at hput
    generalize World.setCell v3 _ _ = v4 at hput ⊢
    have H4 := Lib.hid hput
    clear hput
    clear n_ex f_ex H3
    go_wp2_with (first | (refine Row.wpList_load_g 29 _ rfl (by first | rfl | (go_simp; done) | fail) ⟨gn, 0, none⟩ rfl (Ru.cells ⟨n.co, n.tm, n.fs, n.ft, n.lf, n.pr, ex, n.dn, n.mx, n.tl, n.tu, n.td⟩) _ (seg H4.out 0 0 rfl _ rfl) Try.underlying29 rfl infoRu ?_) | (refine wpList_store_row rfl 29 _ _ rfl gz (Ru.cells ⟨n.co, n.tm, n.fs, n.ft, n.lf, n.pr, ex, n.dn, n.mx, n.tl, n.tu, n.td⟩).toArray rfl rfl 29 _ (H4.out.at 1 rfl) infoRu rfl (one_ru _) ?_))
    have hput := H4.out.put 1 rfl (Ru.cells ⟨n.co, n.tm, n.fs, n.ft, n.lf, n.pr, ex, n.dn, n.mx, n.tl, n.tu, n.td⟩).toArray
    simp only [List.set_cons_succ, List.set_cons_zero] at hput
    generalize World.setRow v4 gz _ = vz at hput ⊢
    have HG := Lib.hid hput
    clear hput
    go_wp2_with fail
    (try simp only [Exit.inBlock, Exit.then])
    refine bodyPost_ret (v := .agg (Ru.cells ⟨n.co, n.tm, n.fs, n.ft, n.lf, n.pr, ex, n.dn, n.mx, n.tl, n.tu, n.td⟩).toArray) ?_ rfl ⟨ret_ru HE.out.symm, HG.out.bel⟩
    exact results_cell_row rfl _ _ gz 29 _ (0, 0) _ rfl (HG.out.at 1 rfl) Try.underlying29 rfl infoRu
  replace HE : Hid (sty p c n = { n with dn := true, mx := decide (0 < n.lf) && fu }) := Lib.hid (HE.out.trans (if_neg (by simp)))
  go_upto_region 7 with fail
  clear t_cho
  have n_lf : v3.cell? ⟨gn, 4, none⟩ = some (I n.lf) := H3.out.cell 0 4 rfl rfl
  by_cases hl : 0 < n.lf
  rotate_left
  · replace HE : Hid (sty p c n = ⟨n.co, n.tm, n.fs, n.ft, n.lf, n.pr, n.ex, true, false, n.tl, n.tu, n.td⟩) := Lib.hid (HE.out.trans (by rw [decide_eq_false hl]; rfl))
    have n_dn : v3.cell? ⟨gn, 7, none⟩ = some (.bool n.dn) := H3.out.cell 0 7 rfl rfl
    have f_dn : v3.frozen? ⟨gn, 7, none⟩ = false := H3.out.frozen 0 7 rfl
    have n_mx : v3.cell? ⟨gn, 8, none⟩ = some (.bool n.mx) := H3.out.cell 0 8 rfl rfl
    have f_mx : v3.frozen? ⟨gn, 8, none⟩ = false := H3.out.frozen 0 8 rfl
    go_upto_region 8 with fail
    clear n_lf n_dn f_dn n_mx f_mx
    have hput := (H3.out.set 0 7 rfl (.bool true)).set 0 8 rfl (.bool false)
    rw [show Array.setIfInBounds (Array.setIfInBounds _ 7 (.bool true)) 8 (.bool false) = (Ru.cells ⟨n.co, n.tm, n.fs, n.ft, n.lf, n.pr, n.ex, true, false, n.tl, n.tu, n.td⟩).toArray from rfl] at hput
    simp only [List.set_cons_succ, List.set_cons_zero] at hput
    generalize World.setCell (World.setCell v3 _ _) _ _ = v9 at hput ⊢
    have H9 := Lib.hid hput
    clear hput
    go_wp2_with (first | (refine Row.wpList_load_g 29 _ rfl (by first | rfl | (go_simp; done) | fail) ⟨gn, 0, none⟩ rfl (Ru.cells ⟨n.co, n.tm, n.fs, n.ft, n.lf, n.pr, n.ex, true, false, n.tl, n.tu, n.td⟩) _ (seg H9.out 0 0 rfl _ rfl) Try.underlying29 rfl infoRu ?_) | (refine wpList_store_row rfl 29 _ _ rfl gz (Ru.cells ⟨n.co, n.tm, n.fs, n.ft, n.lf, n.pr, n.ex, true, false, n.tl, n.tu, n.td⟩).toArray rfl rfl 29 _ (H9.out.at 1 rfl) infoRu rfl (one_ru _) ?_))
    have hput := H9.out.put 1 rfl (Ru.cells ⟨n.co, n.tm, n.fs, n.ft, n.lf, n.pr, n.ex, true, false, n.tl, n.tu, n.td⟩).toArray
    simp only [List.set_cons_succ, List.set_cons_zero] at hput
    generalize World.setRow v9 gz _ = vz at hput ⊢
    have HG := Lib.hid hput
    clear hput
    go_wp2_with fail
    (try simp only [Exit.inBlock, Exit.then])
    refine bodyPost_ret (v := .agg (Ru.cells ⟨n.co, n.tm, n.fs, n.ft, n.lf, n.pr, n.ex, true, false, n.tl, n.tu, n.td⟩).toArray) ?_ rfl ⟨ret_ru HE.out.symm, HG.out.bel⟩
    exact results_cell_row rfl _ _ gz 29 _ (0, 0) _ rfl (HG.out.at 1 rfl) Try.underlying29 rfl infoRu
  replace HE : Hid (sty p c n = ⟨n.co, n.tm, n.fs, n.ft, n.lf, n.pr, n.ex, true, fu, n.tl, n.tu, n.td⟩) := Lib.hid (HE.out.trans (by rw [decide_eq_true hl]; rfl))
  go_wp2_with (first | (refine Row.wpList_load_g 57 _ rfl (by first | rfl | (go_simp; done) | fail) ⟨gt, 0, none⟩ rfl (tuC p r c) _ (seg H3.out 2 0 rfl _ rfl) Try.underlying57 rfl infoTu ?_) | (refine Row.wpList_load_g 29 _ rfl (by first | rfl | (go_simp; done) | fail) ⟨gn, 0, none⟩ rfl n.cells _ (seg H3.out 0 0 rfl _ rfl) Try.underlying29 rfl infoRu ?_))
  refine (FU.out _).mono ?_
  rintro e v4 ⟨rfl, bc⟩
  have H4 := Lib.hid (H3.out.step bc)
  clear bc
  clear n_lf H3
  have n_dn : v4.cell? ⟨gn, 7, none⟩ = some (.bool n.dn) := H4.out.cell 0 7 rfl rfl
  have f_dn : v4.frozen? ⟨gn, 7, none⟩ = false := H4.out.frozen 0 7 rfl
  have n_mx : v4.cell? ⟨gn, 8, none⟩ = some (.bool n.mx) := H4.out.cell 0 8 rfl rfl
  have f_mx : v4.frozen? ⟨gn, 8, none⟩ = false := H4.out.frozen 0 8 rfl
  go_upto_region 8 with fail
  clear n_dn f_dn n_mx f_mx
  have hput := (H4.out.set 0 7 rfl (.bool true)).set 0 8 rfl (.bool fu)
  rw [show Array.setIfInBounds (Array.setIfInBounds _ 7 (.bool true)) 8 (.bool fu) = (Ru.cells ⟨n.co, n.tm, n.fs, n.ft, n.lf, n.pr, n.ex, true, fu, n.tl, n.tu, n.td⟩).toArray from rfl] at hput
  simp only [List.set_cons_succ, List.set_cons_zero] at hput
  generalize World.setCell (World.setCell v4 _ _) _ _ = v9 at hput ⊢
  have H9 := Lib.hid hput
  clear hput
  go_wp2_with (first | (refine Row.wpList_load_g 29 _ rfl (by first | rfl | (go_simp; done) | fail) ⟨gn, 0, none⟩ rfl (Ru.cells ⟨n.co, n.tm, n.fs, n.ft, n.lf, n.pr, n.ex, true, fu, n.tl, n.tu, n.td⟩) _ (seg H9.out 0 0 rfl _ rfl) Try.underlying29 rfl infoRu ?_) | (refine wpList_store_row rfl 29 _ _ rfl gz (Ru.cells ⟨n.co, n.tm, n.fs, n.ft, n.lf, n.pr, n.ex, true, fu, n.tl, n.tu, n.td⟩).toArray rfl rfl 29 _ (H9.out.at 1 rfl) infoRu rfl (one_ru _) ?_))
  have hput := H9.out.put 1 rfl (Ru.cells ⟨n.co, n.tm, n.fs, n.ft, n.lf, n.pr, n.ex, true, fu, n.tl, n.tu, n.td⟩).toArray
  simp only [List.set_cons_succ, List.set_cons_zero] at hput
  generalize World.setRow v9 gz _ = vz at hput ⊢
  have HG := Lib.hid hput
  clear hput
  go_wp2_with fail
  (try simp only [Exit.inBlock, Exit.then])
  refine bodyPost_ret (v := .agg (Ru.cells ⟨n.co, n.tm, n.fs, n.ft, n.lf, n.pr, n.ex, true, fu, n.tl, n.tu, n.td⟩).toArray) ?_ rfl ⟨ret_ru HE.out.symm, HG.out.bel⟩
  exact results_cell_row rfl _ _ gz 29 _ (0, 0) _ rfl (HG.out.at 1 rfl) Try.underlying29 rfl infoRu
set_option maxHeartbeats 4000000 in
theorem yellow_any (p : Ph) (r : Ru) (c : Cu) (w : World) : Calls Try.prog 46 #[.agg (tuC p r c).toArray] w fun e w' => e = .returned (.agg (Ru.cells (yel p r)).toArray) ∧ Below w.heap.size w w' := by
  obtain ⟨tm, htm⟩ : ∃ x, r.tm = x := ⟨_, rfl⟩
  obtain ⟨ye, hye⟩ : ∃ x, p.yellow = x := ⟨_, rfl⟩
  obtain ⟨re, hre⟩ : ∃ x, p.red = x := ⟨_, rfl⟩
  by_cases h1 : tm < ye
  · have HE : Hid (yel p r = lst r 2) := Lib.hid (by unfold yel; rw [htm, hye, if_pos h1])
    have F1 : Hid (∀ W, Calls Try.prog 71 #[.agg (tuC p r c).toArray, .int .i64 2] W fun e w' => e = .returned (.agg (Ru.cells (lst r 2)).toArray) ∧ Below W.heap.size W w') := Lib.hid (fun W => last_any p r c 2 W)
    have hn0 := Blk.Bks.nil w
    have hn1 := hn0.alloc (tuC p r c).toArray 57
    have hn2 := hn1.alloc #[I 0, I 0, I 0, I 0, I 0, I 0, I 0, .bool false, .bool false, I 0, I 0, I 0] 29
    rw [show (w.alloc (.cells (tuC p r c).toArray 57)).heap.size = w.heap.size + 1 by simp] at hn2
    clear hn0
    clear hn1
    go_enter Try.func46, Try.ntmps46
    go_upto_region 1 with fail
    generalize World.alloc (World.alloc w _) _ = v at hn2 ⊢
    generalize hg1 : w.heap.size + 1 = gz at hn2 ⊢
    generalize hg0 : w.heap.size = gt at hn2 ⊢
    clear hg0 hg1
    have H0 := Lib.hid hn2
    clear hn2
    have t_rtm : v.cell? ⟨gt, 14, none⟩ = some (I r.tm) := H0.out.cell 1 14 rfl rfl
    have t_pyellow : v.cell? ⟨gt, 6, none⟩ = some (I p.yellow) := H0.out.cell 1 6 rfl rfl
    have t_pred : v.cell? ⟨gt, 7, none⟩ = some (I p.red) := H0.out.cell 1 7 rfl rfl
    rw [htm] at t_rtm
    rw [hye] at t_pyellow
    rw [hre] at t_pred
    clear htm hye hre
    go_wp2_with (refine Row.wpList_load_g 57 _ rfl (by first | rfl | (go_simp; done) | fail) ⟨gt, 0, none⟩ rfl (tuC p r c) _ (seg H0.out 1 0 rfl _ rfl) Try.underlying57 rfl infoTu ?_)
    refine (F1.out _).mono ?_
    rintro e vc ⟨rfl, bc⟩
    have HD := Lib.hid (H0.out.step bc)
    clear bc
    go_wp2_with (refine wpList_store_row rfl 29 _ _ rfl gz (Ru.cells (lst r 2)).toArray rfl rfl 29 _ (HD.out.at 0 rfl) infoRu rfl (one_ru _) ?_)
    have hput := HD.out.put 0 rfl (Ru.cells (lst r 2)).toArray
    simp only [List.set_cons_succ, List.set_cons_zero] at hput
    generalize World.setRow vc gz _ = vz at hput ⊢
    have HG := Lib.hid hput
    clear hput
    go_wp2_with fail
    (try simp only [Exit.inBlock, Exit.then])
    refine bodyPost_ret (v := .agg (Ru.cells (lst r 2)).toArray) ?_ rfl ⟨ret_ru HE.out.symm, HG.out.bel⟩
    exact results_cell_row rfl _ _ gz 29 _ (0, 0) _ rfl (HG.out.at 0 rfl) Try.underlying29 rfl infoRu
  by_cases h2 : 0 < re
  · have HE : Hid (yel p r = fst r 3) := Lib.hid (by unfold yel; rw [htm, hye, hre, if_neg h1, if_pos h2])
    have F1 : Hid (∀ W, Calls Try.prog 69 #[.agg (tuC p r c).toArray, .int .i64 3] W fun e w' => e = .returned (.agg (Ru.cells (fst r 3)).toArray) ∧ Below W.heap.size W w') := Lib.hid (fun W => first_any p r c 3 W)
    have hn0 := Blk.Bks.nil w
    have hn1 := hn0.alloc (tuC p r c).toArray 57
    have hn2 := hn1.alloc #[I 0, I 0, I 0, I 0, I 0, I 0, I 0, .bool false, .bool false, I 0, I 0, I 0] 29
    rw [show (w.alloc (.cells (tuC p r c).toArray 57)).heap.size = w.heap.size + 1 by simp] at hn2
    clear hn0
    clear hn1
    go_enter Try.func46, Try.ntmps46
    go_upto_region 1 with fail
    generalize World.alloc (World.alloc w _) _ = v at hn2 ⊢
    generalize hg1 : w.heap.size + 1 = gz at hn2 ⊢
    generalize hg0 : w.heap.size = gt at hn2 ⊢
    clear hg0 hg1
    have H0 := Lib.hid hn2
    clear hn2
    have t_rtm : v.cell? ⟨gt, 14, none⟩ = some (I r.tm) := H0.out.cell 1 14 rfl rfl
    have t_pyellow : v.cell? ⟨gt, 6, none⟩ = some (I p.yellow) := H0.out.cell 1 6 rfl rfl
    have t_pred : v.cell? ⟨gt, 7, none⟩ = some (I p.red) := H0.out.cell 1 7 rfl rfl
    rw [htm] at t_rtm
    rw [hye] at t_pyellow
    rw [hre] at t_pred
    clear htm hye hre
    go_wp2_with (refine Row.wpList_load_g 57 _ rfl (by first | rfl | (go_simp; done) | fail) ⟨gt, 0, none⟩ rfl (tuC p r c) _ (seg H0.out 1 0 rfl _ rfl) Try.underlying57 rfl infoTu ?_)
    refine (F1.out _).mono ?_
    rintro e vc ⟨rfl, bc⟩
    have HD := Lib.hid (H0.out.step bc)
    clear bc
    go_wp2_with (refine wpList_store_row rfl 29 _ _ rfl gz (Ru.cells (fst r 3)).toArray rfl rfl 29 _ (HD.out.at 0 rfl) infoRu rfl (one_ru _) ?_)
    have hput := HD.out.put 0 rfl (Ru.cells (fst r 3)).toArray
    simp only [List.set_cons_succ, List.set_cons_zero] at hput
    generalize World.setRow vc gz _ = vz at hput ⊢
    have HG := Lib.hid hput
    clear hput
    go_wp2_with fail
    (try simp only [Exit.inBlock, Exit.then])
    refine bodyPost_ret (v := .agg (Ru.cells (fst r 3)).toArray) ?_ rfl ⟨ret_ru HE.out.symm, HG.out.bel⟩
    exact results_cell_row rfl _ _ gz 29 _ (0, 0) _ rfl (HG.out.at 0 rfl) Try.underlying29 rfl infoRu
  · have HE : Hid (yel p r = fst r 0) := Lib.hid (by unfold yel; rw [htm, hye, hre, if_neg h1, if_neg h2])
    have F1 : Hid (∀ W, Calls Try.prog 69 #[.agg (tuC p r c).toArray, .int .i64 0] W fun e w' => e = .returned (.agg (Ru.cells (fst r 0)).toArray) ∧ Below W.heap.size W w') := Lib.hid (fun W => first_any p r c 0 W)
    have hn0 := Blk.Bks.nil w
    have hn1 := hn0.alloc (tuC p r c).toArray 57
    have hn2 := hn1.alloc #[I 0, I 0, I 0, I 0, I 0, I 0, I 0, .bool false, .bool false, I 0, I 0, I 0] 29
    rw [show (w.alloc (.cells (tuC p r c).toArray 57)).heap.size = w.heap.size + 1 by simp] at hn2
    clear hn0
    clear hn1
    go_enter Try.func46, Try.ntmps46
    go_upto_region 1 with fail
    generalize World.alloc (World.alloc w _) _ = v at hn2 ⊢
    generalize hg1 : w.heap.size + 1 = gz at hn2 ⊢
    generalize hg0 : w.heap.size = gt at hn2 ⊢
    clear hg0 hg1
    have H0 := Lib.hid hn2
    clear hn2
    have t_rtm : v.cell? ⟨gt, 14, none⟩ = some (I r.tm) := H0.out.cell 1 14 rfl rfl
    have t_pyellow : v.cell? ⟨gt, 6, none⟩ = some (I p.yellow) := H0.out.cell 1 6 rfl rfl
    have t_pred : v.cell? ⟨gt, 7, none⟩ = some (I p.red) := H0.out.cell 1 7 rfl rfl
    rw [htm] at t_rtm
    rw [hye] at t_pyellow
    rw [hre] at t_pred
    clear htm hye hre
    go_wp2_with (refine Row.wpList_load_g 57 _ rfl (by first | rfl | (go_simp; done) | fail) ⟨gt, 0, none⟩ rfl (tuC p r c) _ (seg H0.out 1 0 rfl _ rfl) Try.underlying57 rfl infoTu ?_)
    refine (F1.out _).mono ?_
    rintro e vc ⟨rfl, bc⟩
    have HD := Lib.hid (H0.out.step bc)
    clear bc
    go_wp2_with (refine wpList_store_row rfl 29 _ _ rfl gz (Ru.cells (fst r 0)).toArray rfl rfl 29 _ (HD.out.at 0 rfl) infoRu rfl (one_ru _) ?_)
    have hput := HD.out.put 0 rfl (Ru.cells (fst r 0)).toArray
    simp only [List.set_cons_succ, List.set_cons_zero] at hput
    generalize World.setRow vc gz _ = vz at hput ⊢
    have HG := Lib.hid hput
    clear hput
    go_wp2_with fail
    (try simp only [Exit.inBlock, Exit.then])
    refine bodyPost_ret (v := .agg (Ru.cells (fst r 0)).toArray) ?_ rfl ⟨ret_ru HE.out.symm, HG.out.bel⟩
    exact results_cell_row rfl _ _ gz 29 _ (0, 0) _ rfl (HG.out.at 0 rfl) Try.underlying29 rfl infoRu
set_option maxHeartbeats 4000000 in
theorem clearance_any (p : Ph) (r : Ru) (c : Cu) (w : World) : Calls Try.prog 47 #[.agg (tuC p r c).toArray] w fun e w' => e = .returned (.agg (Ru.cells (cle p r)).toArray) ∧ Below w.heap.size w w' := by
  obtain ⟨tm, htm⟩ : ∃ x, r.tm = x := ⟨_, rfl⟩
  obtain ⟨ye, hye⟩ : ∃ x, p.yellow = x := ⟨_, rfl⟩
  obtain ⟨re, hre⟩ : ∃ x, p.red = x := ⟨_, rfl⟩
  by_cases h1 : tm < re
  · have HE : Hid (cle p r = lst r 3) := Lib.hid (by unfold cle; rw [htm, hre, if_pos h1])
    have F1 : Hid (∀ W, Calls Try.prog 71 #[.agg (tuC p r c).toArray, .int .i64 3] W fun e w' => e = .returned (.agg (Ru.cells (lst r 3)).toArray) ∧ Below W.heap.size W w') := Lib.hid (fun W => last_any p r c 3 W)
    have hn0 := Blk.Bks.nil w
    have hn1 := hn0.alloc (tuC p r c).toArray 57
    have hn2 := hn1.alloc #[I 0, I 0, I 0, I 0, I 0, I 0, I 0, .bool false, .bool false, I 0, I 0, I 0] 29
    rw [show (w.alloc (.cells (tuC p r c).toArray 57)).heap.size = w.heap.size + 1 by simp] at hn2
    clear hn0
    clear hn1
    go_enter Try.func47, Try.ntmps47
    go_upto_region 1 with fail
    generalize World.alloc (World.alloc w _) _ = v at hn2 ⊢
    generalize hg1 : w.heap.size + 1 = gz at hn2 ⊢
    generalize hg0 : w.heap.size = gt at hn2 ⊢
    clear hg0 hg1
    have H0 := Lib.hid hn2
    clear hn2
    have t_rtm : v.cell? ⟨gt, 14, none⟩ = some (I r.tm) := H0.out.cell 1 14 rfl rfl
    have t_pred : v.cell? ⟨gt, 7, none⟩ = some (I p.red) := H0.out.cell 1 7 rfl rfl
    rw [htm] at t_rtm
    rw [hre] at t_pred
    clear htm hye hre
    go_wp2_with (refine Row.wpList_load_g 57 _ rfl (by first | rfl | (go_simp; done) | fail) ⟨gt, 0, none⟩ rfl (tuC p r c) _ (seg H0.out 1 0 rfl _ rfl) Try.underlying57 rfl infoTu ?_)
    refine (F1.out _).mono ?_
    rintro e vc ⟨rfl, bc⟩
    have HD := Lib.hid (H0.out.step bc)
    clear bc
    go_wp2_with (refine wpList_store_row rfl 29 _ _ rfl gz (Ru.cells (lst r 3)).toArray rfl rfl 29 _ (HD.out.at 0 rfl) infoRu rfl (one_ru _) ?_)
    have hput := HD.out.put 0 rfl (Ru.cells (lst r 3)).toArray
    simp only [List.set_cons_succ, List.set_cons_zero] at hput
    generalize World.setRow vc gz _ = vz at hput ⊢
    have HG := Lib.hid hput
    clear hput
    go_wp2_with fail
    (try simp only [Exit.inBlock, Exit.then])
    refine bodyPost_ret (v := .agg (Ru.cells (lst r 3)).toArray) ?_ rfl ⟨ret_ru HE.out.symm, HG.out.bel⟩
    exact results_cell_row rfl _ _ gz 29 _ (0, 0) _ rfl (HG.out.at 0 rfl) Try.underlying29 rfl infoRu
  · have HE : Hid (cle p r = fst r 0) := Lib.hid (by unfold cle; rw [htm, hre, if_neg h1])
    have F1 : Hid (∀ W, Calls Try.prog 69 #[.agg (tuC p r c).toArray, .int .i64 0] W fun e w' => e = .returned (.agg (Ru.cells (fst r 0)).toArray) ∧ Below W.heap.size W w') := Lib.hid (fun W => first_any p r c 0 W)
    have hn0 := Blk.Bks.nil w
    have hn1 := hn0.alloc (tuC p r c).toArray 57
    have hn2 := hn1.alloc #[I 0, I 0, I 0, I 0, I 0, I 0, I 0, .bool false, .bool false, I 0, I 0, I 0] 29
    rw [show (w.alloc (.cells (tuC p r c).toArray 57)).heap.size = w.heap.size + 1 by simp] at hn2
    clear hn0
    clear hn1
    go_enter Try.func47, Try.ntmps47
    go_upto_region 1 with fail
    generalize World.alloc (World.alloc w _) _ = v at hn2 ⊢
    generalize hg1 : w.heap.size + 1 = gz at hn2 ⊢
    generalize hg0 : w.heap.size = gt at hn2 ⊢
    clear hg0 hg1
    have H0 := Lib.hid hn2
    clear hn2
    have t_rtm : v.cell? ⟨gt, 14, none⟩ = some (I r.tm) := H0.out.cell 1 14 rfl rfl
    have t_pred : v.cell? ⟨gt, 7, none⟩ = some (I p.red) := H0.out.cell 1 7 rfl rfl
    rw [htm] at t_rtm
    rw [hre] at t_pred
    clear htm hye hre
    go_wp2_with (refine Row.wpList_load_g 57 _ rfl (by first | rfl | (go_simp; done) | fail) ⟨gt, 0, none⟩ rfl (tuC p r c) _ (seg H0.out 1 0 rfl _ rfl) Try.underlying57 rfl infoTu ?_)
    refine (F1.out _).mono ?_
    rintro e vc ⟨rfl, bc⟩
    have HD := Lib.hid (H0.out.step bc)
    clear bc
    go_wp2_with (refine wpList_store_row rfl 29 _ _ rfl gz (Ru.cells (fst r 0)).toArray rfl rfl 29 _ (HD.out.at 0 rfl) infoRu rfl (one_ru _) ?_)
    have hput := HD.out.put 0 rfl (Ru.cells (fst r 0)).toArray
    simp only [List.set_cons_succ, List.set_cons_zero] at hput
    generalize World.setRow vc gz _ = vz at hput ⊢
    have HG := Lib.hid hput
    clear hput
    go_wp2_with fail
    (try simp only [Exit.inBlock, Exit.then])
    refine bodyPost_ret (v := .agg (Ru.cells (fst r 0)).toArray) ?_ rfl ⟨ret_ru HE.out.symm, HG.out.bel⟩
    exact results_cell_row rfl _ _ gz 29 _ (0, 0) _ rfl (HG.out.at 0 rfl) Try.underlying29 rfl infoRu
set_option maxHeartbeats 4000000 in
theorem red_any (p : Ph) (r : Ru) (c : Cu) (w : World) : Calls Try.prog 48 #[.agg (tuC p r c).toArray] w fun e w' => e = .returned (.agg (Ru.cells (rdR p r c)).toArray) ∧ Below w.heap.size w w' := by
  obtain ⟨st, hst⟩ : ∃ x, c.st = x := ⟨_, rfl⟩
  cases st
  · have HE : Hid (rdR p r c = lst r 0) := Lib.hid (by unfold rdR; rw [hst]; rfl)
    have F1 : Hid (∀ W, Calls Try.prog 71 #[.agg (tuC p r c).toArray, .int .i64 0] W fun e w' => e = .returned (.agg (Ru.cells (lst r 0)).toArray) ∧ Below W.heap.size W w') := Lib.hid (fun W => last_any p r c 0 W)
    have hn0 := Blk.Bks.nil w
    have hn1 := hn0.alloc (tuC p r c).toArray 57
    have hn2 := hn1.alloc #[I 0, I 0, I 0, I 0, I 0, I 0, I 0, .bool false, .bool false, I 0, I 0, I 0] 29
    rw [show (w.alloc (.cells (tuC p r c).toArray 57)).heap.size = w.heap.size + 1 by simp] at hn2
    clear hn0
    clear hn1
    go_enter Try.func48, Try.ntmps48
    go_upto_region 1 with fail
    generalize World.alloc (World.alloc w _) _ = v at hn2 ⊢
    generalize hg1 : w.heap.size + 1 = gz at hn2 ⊢
    generalize hg0 : w.heap.size = gt at hn2 ⊢
    clear hg0 hg1
    have H0 := Lib.hid hn2
    clear hn2
    have t_cst : v.cell? ⟨gt, 25, none⟩ = some (.bool c.st) := H0.out.cell 1 25 rfl rfl
    rw [hst] at t_cst
    go_wp2_with (refine Row.wpList_load_g 57 _ rfl (by first | rfl | (go_simp; done) | fail) ⟨gt, 0, none⟩ rfl (tuC p r c) _ (seg H0.out 1 0 rfl _ rfl) Try.underlying57 rfl infoTu ?_)
    refine (F1.out _).mono ?_
    rintro e vc ⟨rfl, bc⟩
    have HD := Lib.hid (H0.out.step bc)
    clear bc
    go_wp2_with (refine wpList_store_row rfl 29 _ _ rfl gz (Ru.cells (lst r 0)).toArray rfl rfl 29 _ (HD.out.at 0 rfl) infoRu rfl (one_ru _) ?_)
    have hput := HD.out.put 0 rfl (Ru.cells (lst r 0)).toArray
    simp only [List.set_cons_succ, List.set_cons_zero] at hput
    generalize World.setRow vc gz _ = vz at hput ⊢
    have HG := Lib.hid hput
    clear hput
    go_wp2_with fail
    (try simp only [Exit.inBlock, Exit.then])
    refine bodyPost_ret (v := .agg (Ru.cells (lst r 0)).toArray) ?_ rfl ⟨ret_ru HE.out.symm, HG.out.bel⟩
    exact results_cell_row rfl _ _ gz 29 _ (0, 0) _ rfl (HG.out.at 0 rfl) Try.underlying29 rfl infoRu
  · obtain ⟨⟨a, b⟩, hf⟩ : ∃ x, ft p.walk p.blinks 0 0 c.pu = x := ⟨_, rfl⟩
    have HE : Hid (rdR p r c = ⟨1, 1, a, b, p.gap, 0, 0, false, false, r.tl, r.tu, r.td⟩) := Lib.hid (by unfold rdR; rw [hst, hf]; rfl)
    have F1 : Hid (∀ W, Calls Try.prog 69 #[.agg (tuC p r c).toArray, .int .i64 1] W fun e w' => e = .returned (.agg (Ru.cells (fst r 1)).toArray) ∧ Below W.heap.size W w') := Lib.hid (fun W => first_any p r c 1 W)
    have SE : Hid (∀ W, Calls Try.prog 72 #[.agg p.cells.toArray, .agg #[I 0, I 0], .bool c.pu] W fun e w' => e = .returned (.agg #[I a, I b]) ∧ Below W.heap.size W w') := Lib.hid (fun W => Ped.step_is hf W)
    clear hf
    have hn0 := Blk.Bks.nil w
    have hn1 := hn0.alloc (tuC p r c).toArray 57
    have hn2 := hn1.alloc #[I 0, I 0, I 0, I 0, I 0, I 0, I 0, .bool false, .bool false, I 0, I 0, I 0] 29
    rw [show (w.alloc (.cells (tuC p r c).toArray 57)).heap.size = w.heap.size + 1 by simp] at hn2
    clear hn0
    clear hn1
    go_enter Try.func48, Try.ntmps48
    go_upto_region 1 with fail
    generalize World.alloc (World.alloc w _) _ = v at hn2 ⊢
    generalize hg1 : w.heap.size + 1 = gz at hn2 ⊢
    generalize hg0 : w.heap.size = gt at hn2 ⊢
    clear hg0 hg1
    have H0 := Lib.hid hn2
    clear hn2
    have t_cst : v.cell? ⟨gt, 25, none⟩ = some (.bool c.st) := H0.out.cell 1 25 rfl rfl
    rw [hst] at t_cst
    go_wp2_with (refine Row.wpList_load_g 57 _ rfl (by first | rfl | (go_simp; done) | fail) ⟨gt, 0, none⟩ rfl (tuC p r c) _ (seg H0.out 1 0 rfl _ rfl) Try.underlying57 rfl infoTu ?_)
    refine (F1.out _).mono ?_
    rintro e v1 ⟨rfl, bc⟩
    have H1 := Lib.hid (H0.out.step bc)
    clear bc
    go_upto_region 4 with (refine Row.wpList_store_new rfl 29 _ _ rfl _ _ (Ru.cells (fst r 1)).toArray rfl rfl rfl infoRu rfl (one_ru _) ?_)
    have hn := H1.out.alloc (Ru.cells (fst r 1)).toArray 29
    generalize World.alloc v1 _ = v2 at hn ⊢
    generalize v1.heap.size = gn at hn ⊢
    have H2 := Lib.hid hn
    clear hn
    clear H0 H1 F1 t_cst
    have t_cpu : v2.cell? ⟨gt, 28, none⟩ = some (.bool c.pu) := H2.out.cell 2 28 rfl rfl
    go_wp2_with (first | (refine Row.wpList_load_g 23 _ rfl (by first | rfl | (go_simp; done) | fail) ⟨gt, 0, none⟩ rfl p.cells _ (seg H2.out 2 0 rfl _ rfl) Try.underlying23 rfl infoP ?_) | (refine wpList_build rfl 25 [] rfl #[I 0, I 0] [] rfl built0 ?_))
    refine (SE.out _).mono ?_
    rintro e v3 ⟨rfl, bc⟩
    have H3 := Lib.hid (H2.out.step bc)
    clear bc
    go_upto_region 5 with (refine store_mid rfl 25 _ _ rfl gn 2 #[I a, I b] rfl rfl 29 _ (Ru.cells ⟨1, 1, a, b, 0, 0, 0, false, false, r.tl, r.tu, r.td⟩).toArray H3.out 0 rfl infoFt (by first | decide | (simp [Ru.cells]; done) | fail) (by simp [Value.oneCell']) rfl ?_)
    have hput := H3.out.put 0 rfl (Ru.cells ⟨1, 1, a, b, 0, 0, 0, false, false, r.tl, r.tu, r.td⟩).toArray
    simp only [List.set_cons_succ, List.set_cons_zero] at hput
    generalize World.setRow _ gn _ = v4 at hput ⊢
    have H4 := Lib.hid hput
    clear hput
    clear H2 H3 SE t_cpu
    have t_pgap : v4.cell? ⟨gt, 2, none⟩ = some (I p.gap) := H4.out.cell 2 2 rfl rfl
    have n_lf : v4.cell? ⟨gn, 4, none⟩ = some (I 0) := H4.out.cell 0 4 rfl rfl
    have f_lf : v4.frozen? ⟨gn, 4, none⟩ = false := H4.out.frozen 0 4 rfl
    go_upto_region 6 with fail
    have hput := H4.out.set 0 4 rfl (I p.gap)
    rw [show Array.setIfInBounds _ 4 (I p.gap) = (Ru.cells ⟨1, 1, a, b, p.gap, 0, 0, false, false, r.tl, r.tu, r.td⟩).toArray from rfl] at hput
    simp only [List.set_cons_succ, List.set_cons_zero] at hput
    generalize World.setCell v4 _ _ = v5 at hput ⊢
    have H5 := Lib.hid hput
    clear hput
    clear H4 n_lf f_lf t_pgap
    go_wp2_with (first | (refine Row.wpList_load_g 29 _ rfl (by first | rfl | (go_simp; done) | fail) ⟨gn, 0, none⟩ rfl (Ru.cells ⟨1, 1, a, b, p.gap, 0, 0, false, false, r.tl, r.tu, r.td⟩) _ (seg H5.out 0 0 rfl _ rfl) Try.underlying29 rfl infoRu ?_) | (refine wpList_store_row rfl 29 _ _ rfl gz (Ru.cells ⟨1, 1, a, b, p.gap, 0, 0, false, false, r.tl, r.tu, r.td⟩).toArray rfl rfl 29 _ (H5.out.at 1 rfl) infoRu rfl (one_ru _) ?_))
    have hput := H5.out.put 1 rfl (Ru.cells ⟨1, 1, a, b, p.gap, 0, 0, false, false, r.tl, r.tu, r.td⟩).toArray
    simp only [List.set_cons_succ, List.set_cons_zero] at hput
    generalize World.setRow v5 gz _ = vz at hput ⊢
    have HG := Lib.hid hput
    clear hput
    go_wp2_with fail
    (try simp only [Exit.inBlock, Exit.then])
    refine bodyPost_ret (v := .agg (Ru.cells ⟨1, 1, a, b, p.gap, 0, 0, false, false, r.tl, r.tu, r.td⟩).toArray) ?_ rfl ⟨ret_ru HE.out.symm, HG.out.bel⟩
    exact results_cell_row rfl _ _ gz 29 _ (0, 0) _ rfl (HG.out.at 1 rfl) Try.underlying29 rfl infoRu
end Go.Proofs.Ytbpfknkbiaplpaa.Ru
