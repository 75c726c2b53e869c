/- 4 texts in one file, in build order. -/
import Derived.Test.YtbpfknkbiaplpaaPart02
set_option linter.unusedVariables false
set_option linter.unusedSimpArgs false
set_option linter.unusedSectionVars false
set_option maxHeartbeats 8000000
set_option maxRecDepth 100000
namespace Go.Proofs.Ytbpfknkbiaplpaa
namespace Ru
open Go Go.ChangeShapes Go.WideShapes Go.ChangeAt Go.RowKit
open Tab Flat TabArg QL
open May (infoP)
open Ped (ft cu idl Ft infoFt)
open Gap (lm lf gr Tn infoTn)
theorem oneMore_any (n : Int) (w : World) : Calls Try.prog 55 #[.int .i64 n] w fun e w' => e = .returned (.int .i64 (Cnt.more n)) ∧ w = w' := by
  by_cases h1 : n < 0
  · have HE : Hid (Cnt.more n = 1) := Lib.hid (by unfold Cnt.more Cnt.ct; rw [if_pos h1]; rfl)
    have em : max n 0 = 0 := by omega
    go_enter Try.func55, Try.ntmps55
    go_wp2
    go_ret
    exact ⟨Cnt.ret_int HE.out.symm, rfl⟩
  by_cases h2 : 9999 < n
  · have HE : Hid (Cnt.more n = 10000) := Lib.hid (by unfold Cnt.more Cnt.ct; rw [if_neg h1, if_pos h2]; rfl)
    go_enter Try.func55, Try.ntmps55
    go_wp2
    go_ret
    exact ⟨Cnt.ret_int HE.out.symm, rfl⟩
  · have HE : Hid (Cnt.more n = n + 1) := Lib.hid (by unfold Cnt.more Cnt.ct; rw [if_neg h1, if_neg h2])
    have e1 : IntKind.i64.wrap (n + 1) = n + 1 := by rw [IntKind.wrap_i64]; omega
    go_enter Try.func55, Try.ntmps55
    go_wp2
    go_ret
    exact ⟨Cnt.ret_int HE.out.symm, rfl⟩
theorem oneMoreB (n : Int) (w : World) : Calls Try.prog 55 #[.int .i64 n] w fun e w' => e = .returned (.int .i64 (Cnt.more n)) ∧ Below w.heap.size w w' := (oneMore_any n w).mono fun e w' h => ⟨h.1, h.2 ▸ Below.refl _ _⟩
theorem stands_any (s t : Int) (w : World) : Calls Try.prog 53 #[.agg #[I s, I t]] w fun e w' => e = .returned (.bool (idl s)) ∧ Below w.heap.size w w' := by
  by_cases h1 : s = 1
  · subst h1
    have HE : Hid (idl 1 = false) := Lib.hid (by decide)
    have hn0 := Blk.Bks.nil w
    have hn1 := hn0.alloc #[I 1, I t] 25
    clear hn0
    go_enter Try.func53, Try.ntmps53
    go_upto_region 1 with fail
    generalize World.alloc w _ = v at hn1 ⊢
    generalize hg0 : w.heap.size = gs at hn1 ⊢
    clear hg0
    have H0 := Lib.hid hn1
    clear hn1
    have c0 : v.cell? ⟨gs, 0, none⟩ = some (I 1) := H0.out.cell 0 0 rfl rfl
    go_wp2
    go_ret
    exact ⟨ret_bool (by first | exact HE.out.symm | rfl), H0.out.bel⟩
  by_cases h2 : s = 2
  · subst h2
    have HE : Hid (idl 2 = false) := Lib.hid (by decide)
    have hn0 := Blk.Bks.nil w
    have hn1 := hn0.alloc #[I 2, I t] 25
    clear hn0
    go_enter Try.func53, Try.ntmps53
    go_upto_region 1 with fail
    generalize World.alloc w _ = v at hn1 ⊢
    generalize hg0 : w.heap.size = gs at hn1 ⊢
    clear hg0
    have H0 := Lib.hid hn1
    clear hn1
    have c0 : v.cell? ⟨gs, 0, none⟩ = some (I 2) := H0.out.cell 0 0 rfl rfl
    go_wp2
    go_ret
    exact ⟨ret_bool (by first | exact HE.out.symm | rfl), H0.out.bel⟩
  · have HE : Hid (idl s = true) := Lib.hid (by unfold idl; simp [h1, h2])
    have hn0 := Blk.Bks.nil w
    have hn1 := hn0.alloc #[I s, I t] 25
    clear hn0
    go_enter Try.func53, Try.ntmps53
    go_upto_region 1 with fail
    generalize World.alloc w _ = v at hn1 ⊢
    generalize hg0 : w.heap.size = gs at hn1 ⊢
    clear hg0
    have H0 := Lib.hid hn1
    clear hn1
    have c0 : v.cell? ⟨gs, 0, none⟩ = some (I s) := H0.out.cell 0 0 rfl rfl
    go_wp2
    go_ret
    exact ⟨ret_bool (by first | exact HE.out.symm | rfl), H0.out.bel⟩
theorem first_any (p : Ph) (r : Ru) (c : Cu) (k : Int) (w : World) : Calls Try.prog 69 #[.agg (tuC p r c).toArray, .int .i64 k] w fun e w' => e = .returned (.agg (Ru.cells (fst r k)).toArray) ∧ Below w.heap.size w w' := by
  have hn0 := Blk.Bks.nil w
  have hn1 := hn0.alloc (tuC p r c).toArray 57
  have hn2 := hn1.alloc #[I 0, I 0, I 0, I 0, I 0, I 0, I 0, .bool false, .bool false, I 0, I 0, I 0] 29
  rw [show (w.alloc (.cells (tuC p r c).toArray 57)).heap.size = w.heap.size + 1 by simp] at hn2
  clear hn0
  clear hn1
  go_enter Try.func69, Try.ntmps69
  go_upto_region 1 with fail
  generalize World.alloc (World.alloc w _) _ = v at hn2 ⊢
  generalize hg1 : w.heap.size + 1 = gz at hn2 ⊢
  generalize hg0 : w.heap.size = gt at hn2 ⊢
  clear hg0 hg1
  have H0 := Lib.hid hn2
  clear hn2
  go_wp2_with (first | (refine Row.wpList_load_g 27 _ rfl (by first | rfl | (go_simp; done) | fail) ⟨gt, 22, none⟩ rfl [I r.tl, I r.tu, I r.td] _ (seg H0.out 1 22 rfl _ rfl) Try.underlying27 rfl infoTn ?_) | (refine wpList_build rfl 29 [(0, .tmp 5), (1, .const (I 1)), (8, .tmp 8)] rfl (Ru.cells (fst r k)).toArray _ (by rfl) (built3 k 1 r.tl r.tu r.td) ?_) | (refine wpList_store_row rfl 29 _ _ rfl gz (Ru.cells (fst r k)).toArray rfl rfl 29 _ (H0.out.at 0 rfl) infoRu rfl (one_ru _) ?_))
  have hput := H0.out.put 0 rfl (Ru.cells (fst r k)).toArray
  simp only [List.set_cons_succ, List.set_cons_zero] at hput
  generalize World.setRow v gz _ = v2 at hput ⊢
  have HG := Lib.hid hput
  clear hput
  go_wp2_with fail
  (try simp only [Exit.inBlock, Exit.then])
  refine bodyPost_ret (v := .agg (Ru.cells (fst r k)).toArray) ?_ rfl ⟨rfl, HG.out.bel⟩
  exact results_cell_row rfl _ _ gz 29 _ (0, 0) _ rfl (HG.out.at 0 rfl) Try.underlying29 rfl infoRu
theorem last_any (p : Ph) (r : Ru) (c : Cu) (k : Int) (w : World) : Calls Try.prog 71 #[.agg (tuC p r c).toArray, .int .i64 k] w fun e w' => e = .returned (.agg (Ru.cells (lst r k)).toArray) ∧ Below w.heap.size w w' := by
  obtain ⟨n, hn⟩ : ∃ n, Cnt.more r.tm = n := ⟨_, rfl⟩
  have eV : lst r k = ⟨k, n, 0, 0, 0, 0, 0, false, false, r.tl, r.tu, r.td⟩ := by unfold lst; rw [hn]
  rw [eV]
  have OM : Hid (∀ W, Calls Try.prog 55 #[.int .i64 r.tm] W fun e w' => e = .returned (.int .i64 n) ∧ Below W.heap.size W w') := Lib.hid (fun W => by rw [← hn]; exact oneMoreB _ W)
  clear hn eV
  have hn0 := Blk.Bks.nil w
  have hn1 := hn0.alloc (tuC p r c).toArray 57
  have hn2 := hn1.alloc #[I 0, I 0, I 0, I 0, I 0, I 0, I 0, .bool false, .bool false, I 0, I 0, I 0] 29
  rw [show (w.alloc (.cells (tuC p r c).toArray 57)).heap.size = w.heap.size + 1 by simp] at hn2
  clear hn0
  clear hn1
  go_enter Try.func71, Try.ntmps71
  go_upto_region 1 with fail
  generalize World.alloc (World.alloc w _) _ = v at hn2 ⊢
  generalize hg1 : w.heap.size + 1 = gz at hn2 ⊢
  generalize hg0 : w.heap.size = gt at hn2 ⊢
  clear hg0 hg1
  have H0 := Lib.hid hn2
  clear hn2
  have q1 : ∀ q : QB.By v.heap.size v, q.world.cell? ⟨gt, 14, none⟩ = some (I r.tm) := fun q => (H0.out.by q).cell 1 14 rfl rfl
  refine QT.region v.heap.size 8 (by kernel_rfl) (by kernel_rfl) ?_
  simp only [List.take_succ_cons, List.take_zero]
  repeat first
    | (refine wpQuiet_load rfl 27 _ rfl ⟨gt, 22, none⟩ rfl [I r.tl, I r.tu, I r.td] _ (fun w' ⟨pw, e⟩ => by rw [e]; exact seg (H0.out.by pw) 1 22 rfl _ rfl) Try.underlying27 rfl infoTn ?_
       dsimp only [Act.put]
       simp only [List.setIfInBounds_toArray, List.set_cons_zero, List.set_cons_succ])
    | (quiet_step (first | (go_at_call 55; with_reducible exact QB.call_of (Nat.le_refl _) (fun b => OM.out _))))
  refine wpQuiet_nil ?_
  intro _ hw'
  obtain ⟨pq, rfl⟩ := hw'
  have HP := Lib.hid (H0.out.by pq)
  generalize pq.world = vp at HP ⊢
  simp only [List.drop_succ_cons, List.drop_zero]
  clear q1
  go_wp2_with (first | (refine wpList_build rfl 29 [(0, .tmp 5), (1, .tmp 9), (8, .tmp 12)] rfl (Ru.cells ⟨k, n, 0, 0, 0, 0, 0, false, false, r.tl, r.tu, r.td⟩).toArray _ (by rfl) (built3 k n r.tl r.tu r.td) ?_) | (refine wpList_store_row rfl 29 _ _ rfl gz (Ru.cells ⟨k, n, 0, 0, 0, 0, 0, false, false, r.tl, r.tu, r.td⟩).toArray rfl rfl 29 _ (HP.out.at 0 rfl) infoRu rfl (one_ru _) ?_))
  have hput := HP.out.put 0 rfl (Ru.cells ⟨k, n, 0, 0, 0, 0, 0, false, false, r.tl, r.tu, r.td⟩).toArray
  simp only [List.set_cons_succ, List.set_cons_zero] at hput
  generalize World.setRow vp gz _ = v2 at hput ⊢
  have HG := Lib.hid hput
  clear hput
  go_wp2_with fail
  (try simp only [Exit.inBlock, Exit.then])
  refine bodyPost_ret (v := .agg (Ru.cells ⟨k, n, 0, 0, 0, 0, 0, false, false, r.tl, r.tu, r.td⟩).toArray) ?_ rfl ⟨rfl, HG.out.bel⟩
  exact results_cell_row rfl _ _ gz 29 _ (0, 0) _ rfl (HG.out.at 0 rfl) Try.underlying29 rfl infoRu
theorem full_any (p : Ph) (r : Ru) (c : Cu) (n : Ru) (w : World) : Calls Try.prog 54 #[.agg (tuC p r c).toArray, .agg (Ru.cells n).toArray] w fun e w' => e = .returned (.bool (fuB p n)) ∧ Below w.heap.size w w' := by
  obtain ⟨l, hl⟩ : ∃ l, lm p n.tl = l := ⟨_, rfl⟩
  have HE : Hid (fuB p n = decide (l ≤ n.pr)) := Lib.hid (by unfold fuB; rw [hl])
  have LM : Hid (∀ W, Calls Try.prog 74 #[.agg p.cells.toArray, .agg #[I n.tl, I n.tu, I n.td]] W fun e w' => e = .returned (.int .i64 l) ∧ Below W.heap.size W w') := Lib.hid (fun W => by rw [← hl]; exact Gap.lim_any p _ _ _ W)
  clear hl
  have hn0 := Blk.Bks.nil w
  have hn1 := hn0.alloc (tuC p r c).toArray 57
  have hn2 := hn1.alloc (Ru.cells n).toArray 29
  rw [show (w.alloc (.cells (tuC p r c).toArray 57)).heap.size = w.heap.size + 1 by simp] at hn2
  clear hn0
  clear hn1
  go_enter Try.func54, Try.ntmps54
  go_upto_region 1 with fail
  generalize World.alloc (World.alloc w _) _ = v at hn2 ⊢
  generalize hg1 : w.heap.size + 1 = gn at hn2 ⊢
  generalize hg0 : w.heap.size = gt at hn2 ⊢
  clear hg0 hg1
  have H0 := Lib.hid hn2
  clear hn2
  have q1 : ∀ q : QB.By v.heap.size v, q.world.cell? ⟨gn, 5, none⟩ = some (I n.pr) := fun q => (H0.out.by q).cell 0 5 rfl rfl
  refine QB.region_below v.heap.size (by kernel_rfl) (by kernel_rfl) ?_
  repeat first
    | (refine wpQuiet_load rfl 23 _ rfl ⟨gt, 0, none⟩ rfl p.cells _ (fun w' ⟨pw, e⟩ => by rw [e]; exact seg (H0.out.by pw) 1 0 rfl _ rfl) Try.underlying23 rfl infoP ?_
       dsimp only [Act.put]
       simp only [List.setIfInBounds_toArray, List.set_cons_zero, List.set_cons_succ])
    | (refine wpQuiet_load rfl 27 _ rfl ⟨gn, 9, none⟩ rfl [I n.tl, I n.tu, I n.td] _ (fun w' ⟨pw, e⟩ => by rw [e]; exact seg (H0.out.by pw) 0 9 rfl _ rfl) Try.underlying27 rfl infoTn ?_
       dsimp only [Act.put]
       simp only [List.setIfInBounds_toArray, List.set_cons_zero, List.set_cons_succ])
    | ((quiet_step (first | (go_at_call 74; with_reducible exact QB.call_of (Nat.le_refl _) (fun b => LM.out _)))))
  refine wpQuiet_nil ?_
  intro _ hw'
  obtain ⟨pq, rfl⟩ := hw'
  have HP := Lib.hid (H0.out.by pq)
  go_wp2
  go_ret
  exact ⟨ret_bool HE.out.symm, HP.out.bel⟩
theorem foot_any (p : Ph) (r : Ru) (c : Cu) (w : World) : Calls Try.prog 56 #[.agg (tuC p r c).toArray] w fun e w' => e = .returned (.agg #[I (fooA p r c).st, I (fooA p r c).tm]) ∧ Below w.heap.size w w' := by
  obtain ⟨⟨a, b⟩, hf⟩ : ∃ x, fooA p r c = x := ⟨_, rfl⟩
  rw [hf]
  unfold fooA at hf
  obtain ⟨pu, hpu⟩ : ∃ x, c.pu = x := ⟨_, rfl⟩
  obtain ⟨ps, hps⟩ : ∃ x, c.ps = x := ⟨_, rfl⟩
  obtain ⟨kt, hkt⟩ : ∃ x, c.kt = x := ⟨_, rfl⟩
  obtain ⟨fs, hfs⟩ : ∃ x, r.fs = x := ⟨_, rfl⟩
  rw [hpu, hps, hkt, hfs] at hf
  cases kt
  · rw [if_neg (by simp)] at hf
    cases pu
    · replace hf : ft p.walk p.blinks fs r.ft false = ⟨a, b⟩ := hf
      have CU : Hid (∀ W, Calls Try.prog 72 #[.agg p.cells.toArray, .agg #[I fs, I r.ft], .bool false] W fun e w' => e = .returned (.agg #[I a, I b]) ∧ Below W.heap.size W w') := Lib.hid (fun W => Ped.step_is hf W)
      clear hf
      have hn0 := Blk.Bks.nil w
      have hn1 := hn0.alloc (tuC p r c).toArray 57
      have hn2 := hn1.alloc #[I 0, I 0] 25
      rw [show (w.alloc (.cells (tuC p r c).toArray 57)).heap.size = w.heap.size + 1 by simp] at hn2
      clear hn0
      clear hn1
      go_enter Try.func56, Try.ntmps56
      go_upto_region 1 with fail
      generalize World.alloc (World.alloc w _) _ = v at hn2 ⊢
      generalize hg1 : w.heap.size + 1 = gz at hn2 ⊢
      generalize hg0 : w.heap.size = gt at hn2 ⊢
      clear hg0 hg1
      have H0 := Lib.hid hn2
      clear hn2
      have t_rfs : v.cell? ⟨gt, 15, none⟩ = some (I r.fs) := H0.out.cell 1 15 rfl rfl
      have t_cpu : v.cell? ⟨gt, 28, none⟩ = some (.bool c.pu) := H0.out.cell 1 28 rfl rfl
      have t_cps : v.cell? ⟨gt, 29, none⟩ = some (.bool c.ps) := H0.out.cell 1 29 rfl rfl
      have t_ckt : v.cell? ⟨gt, 32, none⟩ = some (.bool c.kt) := H0.out.cell 1 32 rfl rfl
      rw [hfs] at t_rfs
      rw [hpu] at t_cpu
      rw [hps] at t_cps
      rw [hkt] at t_ckt
      go_wp2_with (first | (refine Row.wpList_load_g 23 _ rfl (by first | rfl | (go_simp; done) | fail) ⟨gt, 0, none⟩ rfl p.cells _ (seg H0.out 1 0 rfl _ rfl) Try.underlying23 rfl infoP ?_) | (refine Row.wpList_load_g 25 _ rfl (by first | rfl | (go_simp; done) | fail) ⟨gt, 15, none⟩ rfl [I fs, I r.ft] _ (seg H0.out 1 15 rfl _ (by first | rfl | (rw [← hfs]; rfl))) Try.underlying25 rfl infoFt ?_))
      refine (CU.out _).mono ?_
      rintro e vc ⟨rfl, bc⟩
      have HD := Lib.hid (H0.out.step bc)
      clear bc
      go_wp2_with (refine wpList_store_row rfl 25 _ _ rfl gz #[I a, I b] rfl rfl 25 _ (HD.out.at 0 rfl) infoFt rfl (by simp [Value.oneCell']) ?_)
      have hput := HD.out.put 0 rfl #[I a, I b]
      simp only [List.set_cons_succ, List.set_cons_zero] at hput
      generalize World.setRow vc gz _ = vz at hput ⊢
      have HG := Lib.hid hput
      clear hput
      go_wp2_with fail
      (try simp only [Exit.inBlock, Exit.then])
      refine bodyPost_ret (v := .agg #[I a, I b]) ?_ rfl ⟨rfl, HG.out.bel⟩
      exact results_cell_row rfl _ _ gz 25 _ (0, 0) _ rfl (HG.out.at 0 rfl) Try.underlying25 rfl infoFt
    · cases ps
      · replace hf : ft p.walk p.blinks fs r.ft true = ⟨a, b⟩ := hf
        have CU : Hid (∀ W, Calls Try.prog 72 #[.agg p.cells.toArray, .agg #[I fs, I r.ft], .bool true] W fun e w' => e = .returned (.agg #[I a, I b]) ∧ Below W.heap.size W w') := Lib.hid (fun W => Ped.step_is hf W)
        clear hf
        have hn0 := Blk.Bks.nil w
        have hn1 := hn0.alloc (tuC p r c).toArray 57
        have hn2 := hn1.alloc #[I 0, I 0] 25
        rw [show (w.alloc (.cells (tuC p r c).toArray 57)).heap.size = w.heap.size + 1 by simp] at hn2
        clear hn0
        clear hn1
        go_enter Try.func56, Try.ntmps56
        go_upto_region 1 with fail
        generalize World.alloc (World.alloc w _) _ = v at hn2 ⊢
        generalize hg1 : w.heap.size + 1 = gz at hn2 ⊢
        generalize hg0 : w.heap.size = gt at hn2 ⊢
        clear hg0 hg1
        have H0 := Lib.hid hn2
        clear hn2
        have t_rfs : v.cell? ⟨gt, 15, none⟩ = some (I r.fs) := H0.out.cell 1 15 rfl rfl
        have t_cpu : v.cell? ⟨gt, 28, none⟩ = some (.bool c.pu) := H0.out.cell 1 28 rfl rfl
        have t_cps : v.cell? ⟨gt, 29, none⟩ = some (.bool c.ps) := H0.out.cell 1 29 rfl rfl
        have t_ckt : v.cell? ⟨gt, 32, none⟩ = some (.bool c.kt) := H0.out.cell 1 32 rfl rfl
        rw [hfs] at t_rfs
        rw [hpu] at t_cpu
        rw [hps] at t_cps
        rw [hkt] at t_ckt
        go_wp2_with (first | (refine Row.wpList_load_g 23 _ rfl (by first | rfl | (go_simp; done) | fail) ⟨gt, 0, none⟩ rfl p.cells _ (seg H0.out 1 0 rfl _ rfl) Try.underlying23 rfl infoP ?_) | (refine Row.wpList_load_g 25 _ rfl (by first | rfl | (go_simp; done) | fail) ⟨gt, 15, none⟩ rfl [I fs, I r.ft] _ (seg H0.out 1 15 rfl _ (by first | rfl | (rw [← hfs]; rfl))) Try.underlying25 rfl infoFt ?_))
        refine (CU.out _).mono ?_
        rintro e vc ⟨rfl, bc⟩
        have HD := Lib.hid (H0.out.step bc)
        clear bc
        go_wp2_with (refine wpList_store_row rfl 25 _ _ rfl gz #[I a, I b] rfl rfl 25 _ (HD.out.at 0 rfl) infoFt rfl (by simp [Value.oneCell']) ?_)
        have hput := HD.out.put 0 rfl #[I a, I b]
        simp only [List.set_cons_succ, List.set_cons_zero] at hput
        generalize World.setRow vc gz _ = vz at hput ⊢
        have HG := Lib.hid hput
        clear hput
        go_wp2_with fail
        (try simp only [Exit.inBlock, Exit.then])
        refine bodyPost_ret (v := .agg #[I a, I b]) ?_ rfl ⟨rfl, HG.out.bel⟩
        exact results_cell_row rfl _ _ gz 25 _ (0, 0) _ rfl (HG.out.at 0 rfl) Try.underlying25 rfl infoFt
      · replace hf : ft p.walk p.blinks fs r.ft false = ⟨a, b⟩ := hf
        have CU : Hid (∀ W, Calls Try.prog 72 #[.agg p.cells.toArray, .agg #[I fs, I r.ft], .bool false] W fun e w' => e = .returned (.agg #[I a, I b]) ∧ Below W.heap.size W w') := Lib.hid (fun W => Ped.step_is hf W)
        clear hf
        have hn0 := Blk.Bks.nil w
        have hn1 := hn0.alloc (tuC p r c).toArray 57
        have hn2 := hn1.alloc #[I 0, I 0] 25
        rw [show (w.alloc (.cells (tuC p r c).toArray 57)).heap.size = w.heap.size + 1 by simp] at hn2
        clear hn0
        clear hn1
        go_enter Try.func56, Try.ntmps56
        go_upto_region 1 with fail
        generalize World.alloc (World.alloc w _) _ = v at hn2 ⊢
        generalize hg1 : w.heap.size + 1 = gz at hn2 ⊢
        generalize hg0 : w.heap.size = gt at hn2 ⊢
        clear hg0 hg1
        have H0 := Lib.hid hn2
        clear hn2
        have t_rfs : v.cell? ⟨gt, 15, none⟩ = some (I r.fs) := H0.out.cell 1 15 rfl rfl
        have t_cpu : v.cell? ⟨gt, 28, none⟩ = some (.bool c.pu) := H0.out.cell 1 28 rfl rfl
        have t_cps : v.cell? ⟨gt, 29, none⟩ = some (.bool c.ps) := H0.out.cell 1 29 rfl rfl
        have t_ckt : v.cell? ⟨gt, 32, none⟩ = some (.bool c.kt) := H0.out.cell 1 32 rfl rfl
        rw [hfs] at t_rfs
        rw [hpu] at t_cpu
        rw [hps] at t_cps
        rw [hkt] at t_ckt
        go_wp2_with (first | (refine Row.wpList_load_g 23 _ rfl (by first | rfl | (go_simp; done) | fail) ⟨gt, 0, none⟩ rfl p.cells _ (seg H0.out 1 0 rfl _ rfl) Try.underlying23 rfl infoP ?_) | (refine Row.wpList_load_g 25 _ rfl (by first | rfl | (go_simp; done) | fail) ⟨gt, 15, none⟩ rfl [I fs, I r.ft] _ (seg H0.out 1 15 rfl _ (by first | rfl | (rw [← hfs]; rfl))) Try.underlying25 rfl infoFt ?_))
        refine (CU.out _).mono ?_
        rintro e vc ⟨rfl, bc⟩
        have HD := Lib.hid (H0.out.step bc)
        clear bc
        go_wp2_with (refine wpList_store_row rfl 25 _ _ rfl gz #[I a, I b] rfl rfl 25 _ (HD.out.at 0 rfl) infoFt rfl (by simp [Value.oneCell']) ?_)
        have hput := HD.out.put 0 rfl #[I a, I b]
        simp only [List.set_cons_succ, List.set_cons_zero] at hput
        generalize World.setRow vc gz _ = vz at hput ⊢
        have HG := Lib.hid hput
        clear hput
        go_wp2_with fail
        (try simp only [Exit.inBlock, Exit.then])
        refine bodyPost_ret (v := .agg #[I a, I b]) ?_ rfl ⟨rfl, HG.out.bel⟩
        exact results_cell_row rfl _ _ gz 25 _ (0, 0) _ rfl (HG.out.at 0 rfl) Try.underlying25 rfl infoFt
  by_cases h1 : fs = 1
  · subst h1
    rw [if_pos ⟨rfl, rfl⟩] at hf
    have CU : Hid (∀ W, Calls Try.prog 75 #[.agg #[I 1, I r.ft]] W fun e w' => e = .returned (.agg #[I a, I b]) ∧ Below W.heap.size W w') := Lib.hid (fun W => Ped.cut_is hf W)
    clear hf
    have hn0 := Blk.Bks.nil w
    have hn1 := hn0.alloc (tuC p r c).toArray 57
    have hn2 := hn1.alloc #[I 0, I 0] 25
    rw [show (w.alloc (.cells (tuC p r c).toArray 57)).heap.size = w.heap.size + 1 by simp] at hn2
    clear hn0
    clear hn1
    go_enter Try.func56, Try.ntmps56
    go_upto_region 1 with fail
    generalize World.alloc (World.alloc w _) _ = v at hn2 ⊢
    generalize hg1 : w.heap.size + 1 = gz at hn2 ⊢
    generalize hg0 : w.heap.size = gt at hn2 ⊢
    clear hg0 hg1
    have H0 := Lib.hid hn2
    clear hn2
    have t_rfs : v.cell? ⟨gt, 15, none⟩ = some (I r.fs) := H0.out.cell 1 15 rfl rfl
    have t_cpu : v.cell? ⟨gt, 28, none⟩ = some (.bool c.pu) := H0.out.cell 1 28 rfl rfl
    have t_cps : v.cell? ⟨gt, 29, none⟩ = some (.bool c.ps) := H0.out.cell 1 29 rfl rfl
    have t_ckt : v.cell? ⟨gt, 32, none⟩ = some (.bool c.kt) := H0.out.cell 1 32 rfl rfl
    rw [hfs] at t_rfs
    rw [hpu] at t_cpu
    rw [hps] at t_cps
    rw [hkt] at t_ckt
    go_wp2_with (first | (refine Row.wpList_load_g 25 _ rfl (by first | rfl | (go_simp; done) | fail) ⟨gt, 15, none⟩ rfl [I 1, I r.ft] _ (seg H0.out 1 15 rfl _ (by first | rfl | (rw [← hfs]; rfl))) Try.underlying25 rfl infoFt ?_))
    refine (CU.out _).mono ?_
    rintro e vc ⟨rfl, bc⟩
    have HD := Lib.hid (H0.out.step bc)
    clear bc
    go_wp2_with (refine wpList_store_row rfl 25 _ _ rfl gz #[I a, I b] rfl rfl 25 _ (HD.out.at 0 rfl) infoFt rfl (by simp [Value.oneCell']) ?_)
    have hput := HD.out.put 0 rfl #[I a, I b]
    simp only [List.set_cons_succ, List.set_cons_zero] at hput
    generalize World.setRow vc gz _ = vz at hput ⊢
    have HG := Lib.hid hput
    clear hput
    go_wp2_with fail
    (try simp only [Exit.inBlock, Exit.then])
    refine bodyPost_ret (v := .agg #[I a, I b]) ?_ rfl ⟨rfl, HG.out.bel⟩
    exact results_cell_row rfl _ _ gz 25 _ (0, 0) _ rfl (HG.out.at 0 rfl) Try.underlying25 rfl infoFt
  · rw [if_neg (fun h => h1 h.2)] at hf
    cases pu
    · replace hf : ft p.walk p.blinks fs r.ft false = ⟨a, b⟩ := hf
      have CU : Hid (∀ W, Calls Try.prog 72 #[.agg p.cells.toArray, .agg #[I fs, I r.ft], .bool false] W fun e w' => e = .returned (.agg #[I a, I b]) ∧ Below W.heap.size W w') := Lib.hid (fun W => Ped.step_is hf W)
      clear hf
      have hn0 := Blk.Bks.nil w
      have hn1 := hn0.alloc (tuC p r c).toArray 57
      have hn2 := hn1.alloc #[I 0, I 0] 25
      rw [show (w.alloc (.cells (tuC p r c).toArray 57)).heap.size = w.heap.size + 1 by simp] at hn2
      clear hn0
      clear hn1
      go_enter Try.func56, Try.ntmps56
      go_upto_region 1 with fail
      generalize World.alloc (World.alloc w _) _ = v at hn2 ⊢
      generalize hg1 : w.heap.size + 1 = gz at hn2 ⊢
      generalize hg0 : w.heap.size = gt at hn2 ⊢
      clear hg0 hg1
      have H0 := Lib.hid hn2
      clear hn2
      have t_rfs : v.cell? ⟨gt, 15, none⟩ = some (I r.fs) := H0.out.cell 1 15 rfl rfl
      have t_cpu : v.cell? ⟨gt, 28, none⟩ = some (.bool c.pu) := H0.out.cell 1 28 rfl rfl
      have t_cps : v.cell? ⟨gt, 29, none⟩ = some (.bool c.ps) := H0.out.cell 1 29 rfl rfl
      have t_ckt : v.cell? ⟨gt, 32, none⟩ = some (.bool c.kt) := H0.out.cell 1 32 rfl rfl
      rw [hfs] at t_rfs
      rw [hpu] at t_cpu
      rw [hps] at t_cps
      rw [hkt] at t_ckt
      go_wp2_with (first | (refine Row.wpList_load_g 23 _ rfl (by first | rfl | (go_simp; done) | fail) ⟨gt, 0, none⟩ rfl p.cells _ (seg H0.out 1 0 rfl _ rfl) Try.underlying23 rfl infoP ?_) | (refine Row.wpList_load_g 25 _ rfl (by first | rfl | (go_simp; done) | fail) ⟨gt, 15, none⟩ rfl [I fs, I r.ft] _ (seg H0.out 1 15 rfl _ (by first | rfl | (rw [← hfs]; rfl))) Try.underlying25 rfl infoFt ?_))
      refine (CU.out _).mono ?_
      rintro e vc ⟨rfl, bc⟩
      have HD := Lib.hid (H0.out.step bc)
      clear bc
      go_wp2_with (refine wpList_store_row rfl 25 _ _ rfl gz #[I a, I b] rfl rfl 25 _ (HD.out.at 0 rfl) infoFt rfl (by simp [Value.oneCell']) ?_)
      have hput := HD.out.put 0 rfl #[I a, I b]
      simp only [List.set_cons_succ, List.set_cons_zero] at hput
      generalize World.setRow vc gz _ = vz at hput ⊢
      have HG := Lib.hid hput
      clear hput
      go_wp2_with fail
      (try simp only [Exit.inBlock, Exit.then])
      refine bodyPost_ret (v := .agg #[I a, I b]) ?_ rfl ⟨rfl, HG.out.bel⟩
      exact results_cell_row rfl _ _ gz 25 _ (0, 0) _ rfl (HG.out.at 0 rfl) Try.underlying25 rfl infoFt
    · cases ps
      · replace hf : ft p.walk p.blinks fs r.ft true = ⟨a, b⟩ := hf
        have CU : Hid (∀ W, Calls Try.prog 72 #[.agg p.cells.toArray, .agg #[I fs, I r.ft], .bool true] W fun e w' => e = .returned (.agg #[I a, I b]) ∧ Below W.heap.size W w') := Lib.hid (fun W => Ped.step_is hf W)
        clear hf
        have hn0 := Blk.Bks.nil w
        have hn1 := hn0.alloc (tuC p r c).toArray 57
        have hn2 := hn1.alloc #[I 0, I 0] 25
        rw [show (w.alloc (.cells (tuC p r c).toArray 57)).heap.size = w.heap.size + 1 by simp] at hn2
        clear hn0
        clear hn1
        go_enter Try.func56, Try.ntmps56
        go_upto_region 1 with fail
        generalize World.alloc (World.alloc w _) _ = v at hn2 ⊢
        generalize hg1 : w.heap.size + 1 = gz at hn2 ⊢
        generalize hg0 : w.heap.size = gt at hn2 ⊢
        clear hg0 hg1
        have H0 := Lib.hid hn2
        clear hn2
        have t_rfs : v.cell? ⟨gt, 15, none⟩ = some (I r.fs) := H0.out.cell 1 15 rfl rfl
        have t_cpu : v.cell? ⟨gt, 28, none⟩ = some (.bool c.pu) := H0.out.cell 1 28 rfl rfl
        have t_cps : v.cell? ⟨gt, 29, none⟩ = some (.bool c.ps) := H0.out.cell 1 29 rfl rfl
        have t_ckt : v.cell? ⟨gt, 32, none⟩ = some (.bool c.kt) := H0.out.cell 1 32 rfl rfl
        rw [hfs] at t_rfs
        rw [hpu] at t_cpu
        rw [hps] at t_cps
        rw [hkt] at t_ckt
        go_wp2_with (first | (refine Row.wpList_load_g 23 _ rfl (by first | rfl | (go_simp; done) | fail) ⟨gt, 0, none⟩ rfl p.cells _ (seg H0.out 1 0 rfl _ rfl) Try.underlying23 rfl infoP ?_) | (refine Row.wpList_load_g 25 _ rfl (by first | rfl | (go_simp; done) | fail) ⟨gt, 15, none⟩ rfl [I fs, I r.ft] _ (seg H0.out 1 15 rfl _ (by first | rfl | (rw [← hfs]; rfl))) Try.underlying25 rfl infoFt ?_))
        refine (CU.out _).mono ?_
        rintro e vc ⟨rfl, bc⟩
        have HD := Lib.hid (H0.out.step bc)
        clear bc
        go_wp2_with (refine wpList_store_row rfl 25 _ _ rfl gz #[I a, I b] rfl rfl 25 _ (HD.out.at 0 rfl) infoFt rfl (by simp [Value.oneCell']) ?_)
        have hput := HD.out.put 0 rfl #[I a, I b]
        simp only [List.set_cons_succ, List.set_cons_zero] at hput
        generalize World.setRow vc gz _ = vz at hput ⊢
        have HG := Lib.hid hput
        clear hput
        go_wp2_with fail
        (try simp only [Exit.inBlock, Exit.then])
        refine bodyPost_ret (v := .agg #[I a, I b]) ?_ rfl ⟨rfl, HG.out.bel⟩
        exact results_cell_row rfl _ _ gz 25 _ (0, 0) _ rfl (HG.out.at 0 rfl) Try.underlying25 rfl infoFt
      · replace hf : ft p.walk p.blinks fs r.ft false = ⟨a, b⟩ := hf
        have CU : Hid (∀ W, Calls Try.prog 72 #[.agg p.cells.toArray, .agg #[I fs, I r.ft], .bool false] W fun e w' => e = .returned (.agg #[I a, I b]) ∧ Below W.heap.size W w') := Lib.hid (fun W => Ped.step_is hf W)
        clear hf
        have hn0 := Blk.Bks.nil w
        have hn1 := hn0.alloc (tuC p r c).toArray 57
        have hn2 := hn1.alloc #[I 0, I 0] 25
        rw [show (w.alloc (.cells (tuC p r c).toArray 57)).heap.size = w.heap.size + 1 by simp] at hn2
        clear hn0
        clear hn1
        go_enter Try.func56, Try.ntmps56
        go_upto_region 1 with fail
        generalize World.alloc (World.alloc w _) _ = v at hn2 ⊢
        generalize hg1 : w.heap.size + 1 = gz at hn2 ⊢
        generalize hg0 : w.heap.size = gt at hn2 ⊢
        clear hg0 hg1
        have H0 := Lib.hid hn2
        clear hn2
        have t_rfs : v.cell? ⟨gt, 15, none⟩ = some (I r.fs) := H0.out.cell 1 15 rfl rfl
        have t_cpu : v.cell? ⟨gt, 28, none⟩ = some (.bool c.pu) := H0.out.cell 1 28 rfl rfl
        have t_cps : v.cell? ⟨gt, 29, none⟩ = some (.bool c.ps) := H0.out.cell 1 29 rfl rfl
        have t_ckt : v.cell? ⟨gt, 32, none⟩ = some (.bool c.kt) := H0.out.cell 1 32 rfl rfl
        rw [hfs] at t_rfs
        rw [hpu] at t_cpu
        rw [hps] at t_cps
        rw [hkt] at t_ckt
        go_wp2_with (first | (refine Row.wpList_load_g 23 _ rfl (by first | rfl | (go_simp; done) | fail) ⟨gt, 0, none⟩ rfl p.cells _ (seg H0.out 1 0 rfl _ rfl) Try.underlying23 rfl infoP ?_) | (refine Row.wpList_load_g 25 _ rfl (by first | rfl | (go_simp; done) | fail) ⟨gt, 15, none⟩ rfl [I fs, I r.ft] _ (seg H0.out 1 15 rfl _ (by first | rfl | (rw [← hfs]; rfl))) Try.underlying25 rfl infoFt ?_))
        refine (CU.out _).mono ?_
        rintro e vc ⟨rfl, bc⟩
        have HD := Lib.hid (H0.out.step bc)
        clear bc
        go_wp2_with (refine wpList_store_row rfl 25 _ _ rfl gz #[I a, I b] rfl rfl 25 _ (HD.out.at 0 rfl) infoFt rfl (by simp [Value.oneCell']) ?_)
        have hput := HD.out.put 0 rfl #[I a, I b]
        simp only [List.set_cons_succ, List.set_cons_zero] at hput
        generalize World.setRow vc gz _ = vz at hput ⊢
        have HG := Lib.hid hput
        clear hput
        go_wp2_with fail
        (try simp only [Exit.inBlock, Exit.then])
        refine bodyPost_ret (v := .agg #[I a, I b]) ?_ rfl ⟨rfl, HG.out.bel⟩
        exact results_cell_row rfl _ _ gz 25 _ (0, 0) _ rfl (HG.out.at 0 rfl) Try.underlying25 rfl infoFt
end Ru
namespace Ru
open Go Go.ChangeShapes Go.WideShapes Go.ChangeAt Go.RowKit
open Tab Flat TabArg QL
open May (infoP)
open Ped (ft cu idl Ft infoFt)
open Gap (lm lf gr Tn infoTn)
theorem longer_any (p : Ph) (r : Ru) (c : Cu) (w : World) : Calls Try.prog 28 #[.agg (tuC p r c).toArray] w fun e w' => e = .returned (.agg (Ru.cells (lon p r c)).toArray) ∧ Below w.heap.size w w' := by
  obtain ⟨n1, hn1⟩ : ∃ x, Cnt.more r.tm = x := ⟨_, rfl⟩
  obtain ⟨⟨a, b⟩, hf⟩ : ∃ x, fooA p r c = x := ⟨_, rfl⟩
  obtain ⟨l1, hl1⟩ : ∃ x, lf p.gap r.lf c.he = x := ⟨_, rfl⟩
  obtain ⟨n2, hn2⟩ : ∃ x, Cnt.more r.pr = x := ⟨_, rfl⟩
  obtain ⟨i1, hi1⟩ : ∃ x, idl r.fs = x := ⟨_, rfl⟩
  have HE : Hid (lon p r c = ⟨r.co, n1, a, b, l1, if c.ps then n2 else r.pr, r.ex, r.dn && !(i1 && decide (a = 1)), r.mx && !(i1 && decide (a = 1)), r.tl, r.tu, r.td⟩) := Lib.hid (by unfold lon beg; rw [hn1, hf, hl1, hn2, hi1])
  obtain ⟨ps, hps⟩ : ∃ x, c.ps = x := ⟨_, rfl⟩
  rw [hps] at HE
  have O1 : Hid (∀ W, Calls Try.prog 55 #[.int .i64 r.tm] W fun e w' => e = .returned (.int .i64 n1) ∧ W = w') := Lib.hid (fun W => by rw [← hn1]; exact oneMore_any _ W)
  have O2 : Hid (∀ W, Calls Try.prog 55 #[.int .i64 r.pr] W fun e w' => e = .returned (.int .i64 n2) ∧ W = w') := Lib.hid (fun W => by rw [← hn2]; exact oneMore_any _ W)
  have FO : Hid (∀ W, Calls Try.prog 56 #[.agg (tuC p r c).toArray] W fun e w' => e = .returned (.agg #[I a, I b]) ∧ Below W.heap.size W w') := Lib.hid (fun W => by have := foot_any p r c W; rwa [hf] at this)
  have LE : Hid (∀ W, Calls Try.prog 57 #[.agg p.cells.toArray, .int .i64 r.lf, .bool c.he] W fun e w' => e = .returned (.int .i64 l1) ∧ Below W.heap.size W w') := Lib.hid (fun W => by rw [← hl1]; exact Gap.left_any p _ _ W)
  have SD : Hid (∀ W, Calls Try.prog 53 #[.agg #[I r.fs, I r.ft]] W fun e w' => e = .returned (.bool i1) ∧ Below W.heap.size W w') := Lib.hid (fun W => by rw [← hi1]; exact stands_any _ _ W)
  clear hn1 hf hl1 hn2 hi1
  have hn0 := Blk.Bks.nil w
  have hn1 := hn0.alloc (tuC p r c).toArray 57
  have hn2 := hn1.alloc #[I 0, I 0, I 0, I 0, I 0, I 0, I 0, .bool false, .bool false, I 0, I 0, I 0] 29
  rw [show (w.alloc (.cells (tuC p r c).toArray 57)).heap.size = w.heap.size + 1 by simp] at hn2
  clear hn0
  clear hn1
  go_enter Try.func28, Try.ntmps28
  go_upto_region 1 with fail
  generalize World.alloc (World.alloc w _) _ = v at hn2 ⊢
  generalize hg1 : w.heap.size + 1 = gz at hn2 ⊢
  generalize hg0 : w.heap.size = gt at hn2 ⊢
  clear hg0 hg1
  have H0 := Lib.hid hn2
  clear hn2
  go_upto_region 2 with (first | (refine Row.wpList_load_g 29 _ rfl (by first | rfl | (go_simp; done) | fail) ⟨gt, 13, none⟩ rfl r.cells _ (seg H0.out 1 13 rfl _ rfl) Try.underlying29 rfl infoRu ?_) | (refine Row.wpList_store_new rfl 29 _ _ rfl _ _ (Ru.cells r).toArray rfl rfl rfl infoRu rfl (one_ru _) ?_))
  have hn := H0.out.alloc (Ru.cells r).toArray 29
  generalize World.alloc v _ = v1 at hn ⊢
  generalize v.heap.size = gn at hn ⊢
  have H1 := Lib.hid hn
  clear hn
  clear H0
  have t_rtm : v1.cell? ⟨gt, 14, none⟩ = some (I r.tm) := H1.out.cell 2 14 rfl rfl
  have n_tm : v1.cell? ⟨gn, 1, none⟩ = some (I r.tm) := H1.out.cell 0 1 rfl rfl
  have f_tm : v1.frozen? ⟨gn, 1, none⟩ = false := H1.out.frozen 0 1 rfl
  go_upto_region 3 with (go_at_call 55; with_reducible refine (O1.out _).mono ?_; rintro e w' ⟨rfl, rfl⟩)
  have hput := H1.out.set 0 1 rfl (I n1)
  rw [show Array.setIfInBounds _ 1 (I n1) = (Ru.cells ⟨r.co, n1, r.fs, r.ft, r.lf, r.pr, r.ex, r.dn, r.mx, r.tl, r.tu, r.td⟩).toArray from rfl] at hput
  simp only [List.set_cons_succ, List.set_cons_zero] at hput
  generalize World.setCell v1 _ _ = v2 at hput ⊢
  have H2 := Lib.hid hput
  clear hput
  clear H1 t_rtm n_tm f_tm
  go_wp2_with (refine Row.wpList_load_g 57 _ rfl (by first | rfl | (go_simp; done) | fail) ⟨gt, 0, none⟩ rfl (tuC p r c) _ (seg H2.out 2 0 rfl _ rfl) Try.underlying57 rfl infoTu ?_)
  refine (FO.out _).mono ?_
  rintro e v3 ⟨rfl, bc⟩
  have H3 := Lib.hid (H2.out.step bc)
  clear bc
  go_upto_region 4 with (refine store_mid rfl 25 _ _ rfl gn 2 #[I a, I b] rfl rfl 29 _ (Ru.cells ⟨r.co, n1, a, b, r.lf, r.pr, r.ex, r.dn, r.mx, r.tl, r.tu, r.td⟩).toArray H3.out 0 rfl infoFt (by first | decide | (simp [Ru.cells]; done) | fail) (by simp [Value.oneCell']) rfl ?_)
  have hput := H3.out.put 0 rfl (Ru.cells ⟨r.co, n1, a, b, r.lf, r.pr, r.ex, r.dn, r.mx, r.tl, r.tu, r.td⟩).toArray
  simp only [List.set_cons_succ, List.set_cons_zero] at hput
  generalize World.setRow _ gn _ = v4 at hput ⊢
  have H4 := Lib.hid hput
  clear hput
  clear H2 H3 FO
  have t_rlf : v4.cell? ⟨gt, 17, none⟩ = some (I r.lf) := H4.out.cell 2 17 rfl rfl
  have t_che : v4.cell? ⟨gt, 27, none⟩ = some (.bool c.he) := H4.out.cell 2 27 rfl rfl
  go_wp2_with (refine Row.wpList_load_g 23 _ rfl (by first | rfl | (go_simp; done) | fail) ⟨gt, 0, none⟩ rfl p.cells _ (seg H4.out 2 0 rfl _ rfl) Try.underlying23 rfl infoP ?_)
  refine (LE.out _).mono ?_
  rintro e v5 ⟨rfl, bc⟩
  have H5 := Lib.hid (H4.out.step bc)
  clear bc
  clear t_rlf t_che
  have n_lf : v5.cell? ⟨gn, 4, none⟩ = some (I r.lf) := H5.out.cell 0 4 rfl rfl
  have f_lf : v5.frozen? ⟨gn, 4, none⟩ = false := H5.out.frozen 0 4 rfl
  go_upto_region 5 with fail
  have hput := H5.out.set 0 4 rfl (I l1)
  rw [show Array.setIfInBounds _ 4 (I l1) = (Ru.cells ⟨r.co, n1, a, b, l1, r.pr, r.ex, r.dn, r.mx, r.tl, r.tu, r.td⟩).toArray from rfl] at hput
  simp only [List.set_cons_succ, List.set_cons_zero] at hput
  generalize World.setCell v5 _ _ = v6 at hput ⊢
  have H6 := Lib.hid hput
  clear hput
  clear H4 H5 LE n_lf f_lf
  have t_cps : v6.cell? ⟨gt, 29, none⟩ = some (.bool c.ps) := H6.out.cell 2 29 rfl rfl
  rw [hps] at t_cps
  cases ps
  · replace HE : Hid (lon p r c = _) := Lib.hid (HE.out.trans (by rw [if_neg (by simp)]))
    go_upto_region 7 with fail
    (try clear t_cps)
    go_wp2_with (refine Row.wpList_load_g 25 _ rfl (by first | rfl | (go_simp; done) | fail) ⟨gt, 15, none⟩ rfl [I r.fs, I r.ft] _ (seg H6.out 2 15 rfl _ rfl) Try.underlying25 rfl infoFt ?_)
    refine (SD.out _).mono ?_
    rintro e v8 ⟨rfl, bc⟩
    have H8 := Lib.hid (H6.out.step bc)
    clear bc
    cases i1
    · replace HE : Hid (lon p r c = ⟨r.co, n1, a, b, l1, r.pr, r.ex, r.dn, r.mx, r.tl, r.tu, r.td⟩) := Lib.hid (by rw [HE.out]; simp)
      go_upto_region 9 with fail
      go_wp2_with (first | (refine Row.wpList_load_g 29 _ rfl (by first | rfl | (go_simp; done) | fail) ⟨gn, 0, none⟩ rfl (Ru.cells ⟨r.co, n1, a, b, l1, r.pr, r.ex, r.dn, r.mx, r.tl, r.tu, r.td⟩) _ (seg H8.out 0 0 rfl _ rfl) Try.underlying29 rfl infoRu ?_) | (refine wpList_store_row rfl 29 _ _ rfl gz (Ru.cells ⟨r.co, n1, a, b, l1, r.pr, r.ex, r.dn, r.mx, r.tl, r.tu, r.td⟩).toArray rfl rfl 29 _ (H8.out.at 1 rfl) infoRu rfl (one_ru _) ?_))
      have hput := H8.out.put 1 rfl (Ru.cells ⟨r.co, n1, a, b, l1, r.pr, r.ex, r.dn, r.mx, r.tl, r.tu, r.td⟩).toArray
      simp only [List.set_cons_succ, List.set_cons_zero] at hput
      generalize World.setRow v8 gz _ = vz at hput ⊢
      have HG := Lib.hid hput
      clear hput
      go_wp2_with fail
      (try simp only [Exit.inBlock, Exit.then])
      refine bodyPost_ret (v := .agg (Ru.cells ⟨r.co, n1, a, b, l1, r.pr, r.ex, r.dn, r.mx, r.tl, r.tu, r.td⟩).toArray) ?_ rfl ⟨ret_ru HE.out.symm, HG.out.bel⟩
      exact results_cell_row rfl _ _ gz 29 _ (0, 0) _ rfl (HG.out.at 1 rfl) Try.underlying29 rfl infoRu
    by_cases h1 : a = 1
    · subst h1
      replace HE : Hid (lon p r c = ⟨r.co, n1, 1, b, l1, r.pr, r.ex, false, false, r.tl, r.tu, r.td⟩) := Lib.hid (by rw [HE.out]; simp)
      have n_fs : v8.cell? ⟨gn, 2, none⟩ = some (I 1) := H8.out.cell 0 2 rfl rfl
      go_upto_region 8 with fail
      clear n_fs
      have n_dn : v8.cell? ⟨gn, 7, none⟩ = some (.bool r.dn) := H8.out.cell 0 7 rfl rfl
      have f_dn : v8.frozen? ⟨gn, 7, none⟩ = false := H8.out.frozen 0 7 rfl
      have n_mx : v8.cell? ⟨gn, 8, none⟩ = some (.bool r.mx) := H8.out.cell 0 8 rfl rfl
      have f_mx : v8.frozen? ⟨gn, 8, none⟩ = false := H8.out.frozen 0 8 rfl
      go_upto_region 9 with fail
      have hput := (H8.out.set 0 7 rfl (.bool false)).set 0 8 rfl (.bool false)
      rw [show Array.setIfInBounds (Array.setIfInBounds _ 7 (.bool false)) 8 (.bool false) = (Ru.cells ⟨r.co, n1, 1, b, l1, r.pr, r.ex, false, false, r.tl, r.tu, r.td⟩).toArray from rfl] at hput
      simp only [List.set_cons_succ, List.set_cons_zero] at hput
      generalize World.setCell (World.setCell v8 _ _) _ _ = v9 at hput ⊢
      have H9 := Lib.hid hput
      clear hput n_dn f_dn n_mx f_mx
      go_wp2_with (first | (refine Row.wpList_load_g 29 _ rfl (by first | rfl | (go_simp; done) | fail) ⟨gn, 0, none⟩ rfl (Ru.cells ⟨r.co, n1, 1, b, l1, r.pr, r.ex, false, false, r.tl, r.tu, r.td⟩) _ (seg H9.out 0 0 rfl _ rfl) Try.underlying29 rfl infoRu ?_) | (refine wpList_store_row rfl 29 _ _ rfl gz (Ru.cells ⟨r.co, n1, 1, b, l1, r.pr, r.ex, false, false, r.tl, r.tu, r.td⟩).toArray rfl rfl 29 _ (H9.out.at 1 rfl) infoRu rfl (one_ru _) ?_))
      have hput := H9.out.put 1 rfl (Ru.cells ⟨r.co, n1, 1, b, l1, r.pr, r.ex, false, false, r.tl, r.tu, r.td⟩).toArray
      simp only [List.set_cons_succ, List.set_cons_zero] at hput
      generalize World.setRow v9 gz _ = vz at hput ⊢
      have HG := Lib.hid hput
      clear hput
      go_wp2_with fail
      (try simp only [Exit.inBlock, Exit.then])
      refine bodyPost_ret (v := .agg (Ru.cells ⟨r.co, n1, 1, b, l1, r.pr, r.ex, false, false, r.tl, r.tu, r.td⟩).toArray) ?_ rfl ⟨ret_ru HE.out.symm, HG.out.bel⟩
      exact results_cell_row rfl _ _ gz 29 _ (0, 0) _ rfl (HG.out.at 1 rfl) Try.underlying29 rfl infoRu
    · replace HE : Hid (lon p r c = ⟨r.co, n1, a, b, l1, r.pr, r.ex, r.dn, r.mx, r.tl, r.tu, r.td⟩) := Lib.hid (by rw [HE.out]; simp [h1])
      have n_fs : v8.cell? ⟨gn, 2, none⟩ = some (I a) := H8.out.cell 0 2 rfl rfl
      go_upto_region 9 with fail
      clear n_fs
      go_wp2_with (first | (refine Row.wpList_load_g 29 _ rfl (by first | rfl | (go_simp; done) | fail) ⟨gn, 0, none⟩ rfl (Ru.cells ⟨r.co, n1, a, b, l1, r.pr, r.ex, r.dn, r.mx, r.tl, r.tu, r.td⟩) _ (seg H8.out 0 0 rfl _ rfl) Try.underlying29 rfl infoRu ?_) | (refine wpList_store_row rfl 29 _ _ rfl gz (Ru.cells ⟨r.co, n1, a, b, l1, r.pr, r.ex, r.dn, r.mx, r.tl, r.tu, r.td⟩).toArray rfl rfl 29 _ (H8.out.at 1 rfl) infoRu rfl (one_ru _) ?_))
      have hput := H8.out.put 1 rfl (Ru.cells ⟨r.co, n1, a, b, l1, r.pr, r.ex, r.dn, r.mx, r.tl, r.tu, r.td⟩).toArray
      simp only [List.set_cons_succ, List.set_cons_zero] at hput
      generalize World.setRow v8 gz _ = vz at hput ⊢
      have HG := Lib.hid hput
      clear hput
      go_wp2_with fail
      (try simp only [Exit.inBlock, Exit.then])
      refine bodyPost_ret (v := .agg (Ru.cells ⟨r.co, n1, a, b, l1, r.pr, r.ex, r.dn, r.mx, r.tl, r.tu, r.td⟩).toArray) ?_ rfl ⟨ret_ru HE.out.symm, HG.out.bel⟩
      exact results_cell_row rfl _ _ gz 29 _ (0, 0) _ rfl (HG.out.at 1 rfl) Try.underlying29 rfl infoRu
  · replace HE : Hid (lon p r c = _) := Lib.hid (HE.out.trans (by rw [if_pos rfl]))
    go_upto_region 6 with fail
    clear t_cps
    have t_rpr : v6.cell? ⟨gt, 18, none⟩ = some (I r.pr) := H6.out.cell 2 18 rfl rfl
    have n_pr : v6.cell? ⟨gn, 5, none⟩ = some (I r.pr) := H6.out.cell 0 5 rfl rfl
    have f_pr : v6.frozen? ⟨gn, 5, none⟩ = false := H6.out.frozen 0 5 rfl
    go_upto_region 7 with (go_at_call 55; with_reducible refine (O2.out _).mono ?_; rintro e w' ⟨rfl, rfl⟩)
    have hput := H6.out.set 0 5 rfl (I n2)
    rw [show Array.setIfInBounds _ 5 (I n2) = (Ru.cells ⟨r.co, n1, a, b, l1, n2, r.ex, r.dn, r.mx, r.tl, r.tu, r.td⟩).toArray from rfl] at hput
    simp only [List.set_cons_succ, List.set_cons_zero] at hput
    generalize World.setCell v6 _ _ = v7 at hput ⊢
    have H7 := Lib.hid hput
    clear hput
    clear t_rpr n_pr f_pr H6
    go_upto_region 7 with fail
    (try clear t_cps)
    go_wp2_with (refine Row.wpList_load_g 25 _ rfl (by first | rfl | (go_simp; done) | fail) ⟨gt, 15, none⟩ rfl [I r.fs, I r.ft] _ (seg H7.out 2 15 rfl _ rfl) Try.underlying25 rfl infoFt ?_)
    refine (SD.out _).mono ?_
    rintro e v8 ⟨rfl, bc⟩
    have H8 := Lib.hid (H7.out.step bc)
    clear bc
    cases i1
    · replace HE : Hid (lon p r c = ⟨r.co, n1, a, b, l1, n2, r.ex, r.dn, r.mx, r.tl, r.tu, r.td⟩) := Lib.hid (by rw [HE.out]; simp)
      go_upto_region 9 with fail
      go_wp2_with (first | (refine Row.wpList_load_g 29 _ rfl (by first | rfl | (go_simp; done) | fail) ⟨gn, 0, none⟩ rfl (Ru.cells ⟨r.co, n1, a, b, l1, n2, r.ex, r.dn, r.mx, r.tl, r.tu, r.td⟩) _ (seg H8.out 0 0 rfl _ rfl) Try.underlying29 rfl infoRu ?_) | (refine wpList_store_row rfl 29 _ _ rfl gz (Ru.cells ⟨r.co, n1, a, b, l1, n2, r.ex, r.dn, r.mx, r.tl, r.tu, r.td⟩).toArray rfl rfl 29 _ (H8.out.at 1 rfl) infoRu rfl (one_ru _) ?_))
      have hput := H8.out.put 1 rfl (Ru.cells ⟨r.co, n1, a, b, l1, n2, r.ex, r.dn, r.mx, r.tl, r.tu, r.td⟩).toArray
      simp only [List.set_cons_succ, List.set_cons_zero] at hput
      generalize World.setRow v8 gz _ = vz at hput ⊢
      have HG := Lib.hid hput
      clear hput
      go_wp2_with fail
      (try simp only [Exit.inBlock, Exit.then])
      refine bodyPost_ret (v := .agg (Ru.cells ⟨r.co, n1, a, b, l1, n2, r.ex, r.dn, r.mx, r.tl, r.tu, r.td⟩).toArray) ?_ rfl ⟨ret_ru HE.out.symm, HG.out.bel⟩
      exact results_cell_row rfl _ _ gz 29 _ (0, 0) _ rfl (HG.out.at 1 rfl) Try.underlying29 rfl infoRu
    by_cases h1 : a = 1
    · subst h1
      replace HE : Hid (lon p r c = ⟨r.co, n1, 1, b, l1, n2, r.ex, false, false, r.tl, r.tu, r.td⟩) := Lib.hid (by rw [HE.out]; simp)
      have n_fs : v8.cell? ⟨gn, 2, none⟩ = some (I 1) := H8.out.cell 0 2 rfl rfl
      go_upto_region 8 with fail
      clear n_fs
      have n_dn : v8.cell? ⟨gn, 7, none⟩ = some (.bool r.dn) := H8.out.cell 0 7 rfl rfl
      have f_dn : v8.frozen? ⟨gn, 7, none⟩ = false := H8.out.frozen 0 7 rfl
      have n_mx : v8.cell? ⟨gn, 8, none⟩ = some (.bool r.mx) := H8.out.cell 0 8 rfl rfl
      have f_mx : v8.frozen? ⟨gn, 8, none⟩ = false := H8.out.frozen 0 8 rfl
      go_upto_region 9 with fail
      have hput := (H8.out.set 0 7 rfl (.bool false)).set 0 8 rfl (.bool false)
      rw [show Array.setIfInBounds (Array.setIfInBounds _ 7 (.bool false)) 8 (.bool false) = (Ru.cells ⟨r.co, n1, 1, b, l1, n2, r.ex, false, false, r.tl, r.tu, r.td⟩).toArray from rfl] at hput
      simp only [List.set_cons_succ, List.set_cons_zero] at hput
      generalize World.setCell (World.setCell v8 _ _) _ _ = v9 at hput ⊢
      have H9 := Lib.hid hput
      clear hput n_dn f_dn n_mx f_mx
      go_wp2_with (first | (refine Row.wpList_load_g 29 _ rfl (by first | rfl | (go_simp; done) | fail) ⟨gn, 0, none⟩ rfl (Ru.cells ⟨r.co, n1, 1, b, l1, n2, r.ex, false, false, r.tl, r.tu, r.td⟩) _ (seg H9.out 0 0 rfl _ rfl) Try.underlying29 rfl infoRu ?_) | (refine wpList_store_row rfl 29 _ _ rfl gz (Ru.cells ⟨r.co, n1, 1, b, l1, n2, r.ex, false, false, r.tl, r.tu, r.td⟩).toArray rfl rfl 29 _ (H9.out.at 1 rfl) infoRu rfl (one_ru _) ?_))
      have hput := H9.out.put 1 rfl (Ru.cells ⟨r.co, n1, 1, b, l1, n2, r.ex, false, false, r.tl, r.tu, r.td⟩).toArray
      simp only [List.set_cons_succ, List.set_cons_zero] at hput
      generalize World.setRow v9 gz _ = vz at hput ⊢
      have HG := Lib.hid hput
      clear hput
      go_wp2_with fail
      (try simp only [Exit.inBlock, Exit.then])
      refine bodyPost_ret (v := .agg (Ru.cells ⟨r.co, n1, 1, b, l1, n2, r.ex, false, false, r.tl, r.tu, r.td⟩).toArray) ?_ rfl ⟨ret_ru HE.out.symm, HG.out.bel⟩
      exact results_cell_row rfl _ _ gz 29 _ (0, 0) _ rfl (HG.out.at 1 rfl) Try.underlying29 rfl infoRu
    · replace HE : Hid (lon p r c = ⟨r.co, n1, a, b, l1, n2, r.ex, r.dn, r.mx, r.tl, r.tu, r.td⟩) := Lib.hid (by rw [HE.out]; simp [h1])
      have n_fs : v8.cell? ⟨gn, 2, none⟩ = some (I a) := H8.out.cell 0 2 rfl rfl
      go_upto_region 9 with fail
      clear n_fs
      go_wp2_with (first | (refine Row.wpList_load_g 29 _ rfl (by first | rfl | (go_simp; done) | fail) ⟨gn, 0, none⟩ rfl (Ru.cells ⟨r.co, n1, a, b, l1, n2, r.ex, r.dn, r.mx, r.tl, r.tu, r.td⟩) _ (seg H8.out 0 0 rfl _ rfl) Try.underlying29 rfl infoRu ?_) | (refine wpList_store_row rfl 29 _ _ rfl gz (Ru.cells ⟨r.co, n1, a, b, l1, n2, r.ex, r.dn, r.mx, r.tl, r.tu, r.td⟩).toArray rfl rfl 29 _ (H8.out.at 1 rfl) infoRu rfl (one_ru _) ?_))
      have hput := H8.out.put 1 rfl (Ru.cells ⟨r.co, n1, a, b, l1, n2, r.ex, r.dn, r.mx, r.tl, r.tu, r.td⟩).toArray
      simp only [List.set_cons_succ, List.set_cons_zero] at hput
      generalize World.setRow v8 gz _ = vz at hput ⊢
      have HG := Lib.hid hput
      clear hput
      go_wp2_with fail
      (try simp only [Exit.inBlock, Exit.then])
      refine bodyPost_ret (v := .agg (Ru.cells ⟨r.co, n1, a, b, l1, n2, r.ex, r.dn, r.mx, r.tl, r.tu, r.td⟩).toArray) ?_ rfl ⟨ret_ru HE.out.symm, HG.out.bel⟩
      exact results_cell_row rfl _ _ gz 29 _ (0, 0) _ rfl (HG.out.at 1 rfl) Try.underlying29 rfl infoRu
end Ru
namespace Ru
open Go Go.ChangeShapes Go.WideShapes Go.ChangeAt Go.RowKit
open Tab Flat TabArg QL
open May (infoP)
open Ped (ft cu idl Ft infoFt)
open Gap (lm lf gr Tn infoTn)
theorem due_any (p : Ph) (r : Ru) (c : Cu) (n : Ru) (w : World) : Calls Try.prog 27 #[.agg (tuC p r c).toArray, .agg (Ru.cells n).toArray] w fun e w' => e = .returned (.bool (duB p c n)) ∧ Below w.heap.size w w' := by
  obtain ⟨fu, hfu⟩ : ∃ x, fuB p n = x := ⟨_, rfl⟩
  obtain ⟨i1, hi1⟩ : ∃ x, idl n.fs = x := ⟨_, rfl⟩
  obtain ⟨ps, hps⟩ : ∃ x, c.ps = x := ⟨_, rfl⟩
  obtain ⟨dn, hdn⟩ : ∃ x, n.dn = x := ⟨_, rfl⟩
  obtain ⟨ea, hea⟩ : ∃ x, c.ea = x := ⟨_, rfl⟩
  have HE : Hid (duB p c n = (ps && (!dn && (decide (p.min ≤ n.tm) && (i1 && (decide (n.lf = 0) || (fu || ea))))))) := Lib.hid (by unfold duB; rw [hfu, hi1, hps, hdn, hea])
  have FU : Hid (∀ W, Calls Try.prog 54 #[.agg (tuC p r c).toArray, .agg (Ru.cells n).toArray] W fun e w' => e = .returned (.bool fu) ∧ Below W.heap.size W w') := Lib.hid (fun W => by rw [← hfu]; exact full_any p r c n W)
  have SD : Hid (∀ W, Calls Try.prog 53 #[.agg #[I n.fs, I n.ft]] W fun e w' => e = .returned (.bool i1) ∧ Below W.heap.size W w') := Lib.hid (fun W => by rw [← hi1]; exact stands_any _ _ W)
  clear hfu hi1
  have hn0 := Blk.Bks.nil w
  have hn1 := hn0.alloc (tuC p r c).toArray 57
  have hn2 := hn1.alloc (Ru.cells n).toArray 29
  rw [show (w.alloc (.cells (tuC p r c).toArray 57)).heap.size = w.heap.size + 1 by simp] at hn2
  clear hn0
  clear hn1
  go_enter Try.func27, Try.ntmps27
  go_upto_region 1 with fail
  generalize World.alloc (World.alloc w _) _ = v at hn2 ⊢
  generalize hg1 : w.heap.size + 1 = gn at hn2 ⊢
  generalize hg0 : w.heap.size = gt at hn2 ⊢
  clear hg0 hg1
  have H0 := Lib.hid hn2
  clear hn2
  have t_cps : v.cell? ⟨gt, 29, none⟩ = some (.bool c.ps) := H0.out.cell 1 29 rfl rfl
  have t_pmin : v.cell? ⟨gt, 1, none⟩ = some (I p.min) := H0.out.cell 1 1 rfl rfl
  have t_cea : v.cell? ⟨gt, 31, none⟩ = some (.bool c.ea) := H0.out.cell 1 31 rfl rfl
  have n_tm : v.cell? ⟨gn, 1, none⟩ = some (I n.tm) := H0.out.cell 0 1 rfl rfl
  have n_dn : v.cell? ⟨gn, 7, none⟩ = some (.bool n.dn) := H0.out.cell 0 7 rfl rfl
  have n_lf : v.cell? ⟨gn, 4, none⟩ = some (I n.lf) := H0.out.cell 0 4 rfl rfl
  rw [hps] at t_cps
  rw [hdn] at n_dn
  rw [hea] at t_cea
  clear hps hdn
  have SG : Lies v ⟨gn, 2, none⟩ [I n.fs, I n.ft] := seg H0.out 0 2 rfl _ rfl
  have SG2 := Lib.hid SG
  clear SG
  obtain ⟨tm, htm⟩ : ∃ x, n.tm = x := ⟨_, rfl⟩
  obtain ⟨mi, hmi⟩ : ∃ x, p.min = x := ⟨_, rfl⟩
  obtain ⟨lf', hlf⟩ : ∃ x, n.lf = x := ⟨_, rfl⟩
  rw [htm] at HE n_tm
  rw [hmi] at HE t_pmin
  rw [hlf] at HE n_lf
  clear htm hmi
  cases ps
  · replace HE : Hid (duB p c n = false) := Lib.hid (by rw [HE.out]; simp [*])
    go_wp2_with fail
    go_ret
    exact ⟨ret_bool HE.out.symm, H0.out.bel⟩
  cases dn
  rotate_left
  · replace HE : Hid (duB p c n = false) := Lib.hid (by rw [HE.out]; simp [*])
    go_wp2_with fail
    go_ret
    exact ⟨ret_bool HE.out.symm, H0.out.bel⟩
  by_cases h1 : mi ≤ tm
  rotate_left
  · replace HE : Hid (duB p c n = false) := Lib.hid (by rw [HE.out]; simp [*])
    go_wp2_with fail
    go_ret
    exact ⟨ret_bool HE.out.symm, H0.out.bel⟩
  go_wp2_with (refine Row.wpList_load_g 25 _ rfl (by first | rfl | (go_simp; done) | fail) ⟨gn, 2, none⟩ rfl [I n.fs, I n.ft] _ (by first | exact SG2.out | exact seg H2.out 0 2 rfl _ rfl) Try.underlying25 rfl infoFt ?_)
  refine (SD.out _).mono ?_
  rintro e v2 ⟨rfl, b2⟩
  have H2 := Lib.hid (H0.out.step b2)
  clear b2 t_cps n_tm n_dn t_pmin t_cea n_lf
  have t_cea : v2.cell? ⟨gt, 31, none⟩ = some (.bool c.ea) := H2.out.cell 1 31 rfl rfl
  have n_lf : v2.cell? ⟨gn, 4, none⟩ = some (I n.lf) := H2.out.cell 0 4 rfl rfl
  rw [hlf] at n_lf
  rw [hea] at t_cea
  clear hlf
  cases i1
  · replace HE : Hid (duB p c n = false) := Lib.hid (by rw [HE.out]; simp [*])
    go_wp2_with fail
    go_ret
    exact ⟨ret_bool HE.out.symm, H2.out.bel⟩
  by_cases h2 : lf' = 0
  · subst h2
    replace HE : Hid (duB p c n = true) := Lib.hid (by rw [HE.out]; simp [*])
    go_wp2_with fail
    go_ret
    exact ⟨ret_bool HE.out.symm, H2.out.bel⟩
  have z2 : (lf' == 0) = false := by rw [beq_eq_false_iff_ne]; exact h2
  go_wp2_with (first | (refine Row.wpList_load_g 57 _ rfl (by first | rfl | (go_simp; done) | fail) ⟨gt, 0, none⟩ rfl (tuC p r c) _ (seg H2.out 1 0 rfl _ rfl) Try.underlying57 rfl infoTu ?_) | (refine Row.wpList_load_g 29 _ rfl (by first | rfl | (go_simp; done) | fail) ⟨gn, 0, none⟩ rfl n.cells _ (seg H2.out 0 0 rfl _ rfl) Try.underlying29 rfl infoRu ?_))
  refine (FU.out _).mono ?_
  rintro e v3 ⟨rfl, bc⟩
  have H3 := Lib.hid (H2.out.step bc)
  clear bc
  clear t_cea n_lf
  have t_cea : v3.cell? ⟨gt, 31, none⟩ = some (.bool c.ea) := H3.out.cell 1 31 rfl rfl
  rw [hea] at t_cea
  cases fu
  · cases ea
    · replace HE : Hid (duB p c n = false) := Lib.hid (by rw [HE.out]; simp [*])
      go_wp2_with fail
      go_ret
      exact ⟨ret_bool HE.out.symm, H3.out.bel⟩
    · replace HE : Hid (duB p c n = true) := Lib.hid (by rw [HE.out]; simp [*])
      go_wp2_with fail
      go_ret
      exact ⟨ret_bool HE.out.symm, H3.out.bel⟩
  · replace HE : Hid (duB p c n = true) := Lib.hid (by rw [HE.out]; simp [*])
    go_wp2_with fail
    go_ret
    exact ⟨ret_bool HE.out.symm, H3.out.bel⟩
end Ru
namespace Ru
open Go Go.ChangeShapes Go.WideShapes Go.ChangeAt Go.RowKit
open Tab Flat TabArg QL
open May (infoP)
open Ped (ft cu idl Ft infoFt)
open Gap (lm lf gr Tn infoTn)
theorem end_any (p : Ph) (r : Ru) (c : Cu) (w : World) : Calls Try.prog 44 #[.agg (tuC p r c).toArray] w fun e w' => e = .returned (.agg (Ru.cells (fin p r)).toArray) ∧ Below w.heap.size w w' := by
  obtain ⟨⟨x, y, z⟩, ht⟩ : ∃ t, tre p r = t := ⟨_, rfl⟩
  have HE : Hid (fin p r = ⟨2, 1, 0, 0, 0, 0, 0, false, false, x, y, z⟩) := Lib.hid (by unfold fin; rw [ht])
  obtain ⟨dn, hdn⟩ : ∃ x, r.dn = x := ⟨_, rfl⟩
  unfold tre at ht
  rw [hdn] at ht
  have F1 : Hid (∀ W, Calls Try.prog 69 #[.agg (tuC p r c).toArray, .int .i64 2] W fun e w' => e = .returned (.agg (Ru.cells (fst r 2)).toArray) ∧ Below W.heap.size W w') := Lib.hid (fun W => first_any p r c 2 W)
  have hn0 := Blk.Bks.nil w
  have hn1 := hn0.alloc (tuC p r c).toArray 57
  have hn2 := hn1.alloc #[I 0, I 0, I 0, I 0, I 0, I 0, I 0, .bool false, .bool false, I 0, I 0, I 0] 29
  rw [show (w.alloc (.cells (tuC p r c).toArray 57)).heap.size = w.heap.size + 1 by simp] at hn2
  clear hn0
  clear hn1
  go_enter Try.func44, Try.ntmps44
  go_upto_region 1 with fail
  generalize World.alloc (World.alloc w _) _ = v at hn2 ⊢
  generalize hg1 : w.heap.size + 1 = gz at hn2 ⊢
  generalize hg0 : w.heap.size = gt at hn2 ⊢
  clear hg0 hg1
  have H0 := Lib.hid hn2
  clear hn2
  go_wp2_with (refine Row.wpList_load_g 57 _ rfl (by first | rfl | (go_simp; done) | fail) ⟨gt, 0, none⟩ rfl (tuC p r c) _ (seg H0.out 1 0 rfl _ rfl) Try.underlying57 rfl infoTu ?_)
  refine (F1.out _).mono ?_
  rintro e v1 ⟨rfl, bc⟩
  have H1 := Lib.hid (H0.out.step bc)
  clear bc
  go_upto_region 2 with (refine Row.wpList_store_new rfl 29 _ _ rfl _ _ (Ru.cells (fst r 2)).toArray rfl rfl rfl infoRu rfl (one_ru _) ?_)
  have hn := H1.out.alloc (Ru.cells (fst r 2)).toArray 29
  generalize World.alloc v1 _ = v2 at hn ⊢
  generalize v1.heap.size = gn at hn ⊢
  have H2 := Lib.hid hn
  clear hn
  clear H0 H1 F1
  have t_rdn : v2.cell? ⟨gt, 20, none⟩ = some (.bool r.dn) := H2.out.cell 2 20 rfl rfl
  rw [hdn] at t_rdn
  cases dn
  · rw [if_neg (by simp)] at ht
    injection ht with e1 e2 e3
    subst e1 e2 e3
    go_upto_region 4 with fail
    go_wp2_with (first | (refine Row.wpList_load_g 29 _ rfl (by first | rfl | (go_simp; done) | fail) ⟨gn, 0, none⟩ rfl (Ru.cells ⟨2, 1, 0, 0, 0, 0, 0, false, false, r.tl, r.tu, r.td⟩) _ (seg H2.out 0 0 rfl _ rfl) Try.underlying29 rfl infoRu ?_) | (refine wpList_store_row rfl 29 _ _ rfl gz (Ru.cells ⟨2, 1, 0, 0, 0, 0, 0, false, false, r.tl, r.tu, r.td⟩).toArray rfl rfl 29 _ (H2.out.at 1 rfl) infoRu rfl (one_ru _) ?_))
    have hput := H2.out.put 1 rfl (Ru.cells ⟨2, 1, 0, 0, 0, 0, 0, false, false, r.tl, r.tu, r.td⟩).toArray
    simp only [List.set_cons_succ, List.set_cons_zero] at hput
    generalize World.setRow v2 gz _ = vz at hput ⊢
    have HG := Lib.hid hput
    clear hput
    go_wp2_with fail
    (try simp only [Exit.inBlock, Exit.then])
    refine bodyPost_ret (v := .agg (Ru.cells ⟨2, 1, 0, 0, 0, 0, 0, false, false, r.tl, r.tu, r.td⟩).toArray) ?_ rfl ⟨ret_ru HE.out.symm, HG.out.bel⟩
    exact results_cell_row rfl _ _ gz 29 _ (0, 0) _ rfl (HG.out.at 1 rfl) Try.underlying29 rfl infoRu
  · rw [if_pos rfl] at ht
    have GR : Hid (∀ W, Calls Try.prog 70 #[.agg p.cells.toArray, .agg #[I r.tl, I r.tu, I r.td], .bool r.mx] W fun e w' => e = .returned (.agg #[I x, I y, I z]) ∧ Below W.heap.size W w') := Lib.hid (fun W => Gap.grow_is ht W)
    clear ht
    go_upto_region 3 with fail
    clear t_rdn
    have t_rmx : v2.cell? ⟨gt, 21, none⟩ = some (.bool r.mx) := H2.out.cell 2 21 rfl rfl
    go_wp2_with (first | (refine Row.wpList_load_g 23 _ rfl (by first | rfl | (go_simp; done) | fail) ⟨gt, 0, none⟩ rfl p.cells _ (seg H2.out 2 0 rfl _ rfl) Try.underlying23 rfl infoP ?_) | (refine Row.wpList_load_g 27 _ rfl (by first | rfl | (go_simp; done) | fail) ⟨gt, 22, none⟩ rfl [I r.tl, I r.tu, I r.td] _ (seg H2.out 2 22 rfl _ rfl) Try.underlying27 rfl infoTn ?_))
    refine (GR.out _).mono ?_
    rintro e v3 ⟨rfl, bc⟩
    have H3 := Lib.hid (H2.out.step bc)
    clear bc
    go_upto_region 4 with (refine store_mid rfl 27 _ _ rfl gn 9 #[I x, I y, I z] rfl rfl 29 _ (Ru.cells ⟨2, 1, 0, 0, 0, 0, 0, false, false, x, y, z⟩).toArray H3.out 0 rfl infoTn (by first | decide | (simp [Ru.cells]; done) | fail) (by simp [Value.oneCell']) rfl ?_)
    have hput := H3.out.put 0 rfl (Ru.cells ⟨2, 1, 0, 0, 0, 0, 0, false, false, x, y, z⟩).toArray
    simp only [List.set_cons_succ, List.set_cons_zero] at hput
    generalize World.setRow _ gn _ = v4 at hput ⊢
    have H4 := Lib.hid hput
    clear hput
    clear H2 H3 GR t_rmx
    go_wp2_with (first | (refine Row.wpList_load_g 29 _ rfl (by first | rfl | (go_simp; done) | fail) ⟨gn, 0, none⟩ rfl (Ru.cells ⟨2, 1, 0, 0, 0, 0, 0, false, false, x, y, z⟩) _ (seg H4.out 0 0 rfl _ rfl) Try.underlying29 rfl infoRu ?_) | (refine wpList_store_row rfl 29 _ _ rfl gz (Ru.cells ⟨2, 1, 0, 0, 0, 0, 0, false, false, x, y, z⟩).toArray rfl rfl 29 _ (H4.out.at 1 rfl) infoRu rfl (one_ru _) ?_))
    have hput := H4.out.put 1 rfl (Ru.cells ⟨2, 1, 0, 0, 0, 0, 0, false, false, x, y, z⟩).toArray
    simp only [List.set_cons_succ, List.set_cons_zero] at hput
    generalize World.setRow v4 gz _ = vz at hput ⊢
    have HG := Lib.hid hput
    clear hput
    go_wp2_with fail
    (try simp only [Exit.inBlock, Exit.then])
    refine bodyPost_ret (v := .agg (Ru.cells ⟨2, 1, 0, 0, 0, 0, 0, false, false, x, y, z⟩).toArray) ?_ rfl ⟨ret_ru HE.out.symm, HG.out.bel⟩
    exact results_cell_row rfl _ _ gz 29 _ (0, 0) _ rfl (HG.out.at 1 rfl) Try.underlying29 rfl infoRu
theorem stay_any (p : Ph) (r : Ru) (c : Cu) (w : World) : Calls Try.prog 45 #[.agg (tuC p r c).toArray] w fun e w' => e = .returned (.agg (Ru.cells (sty p c (lon p r c))).toArray) ∧ Below w.heap.size w w' := by
  obtain ⟨n, hn⟩ : ∃ n, lon p r c = n := ⟨_, rfl⟩
  rw [hn]
  obtain ⟨du, hdu⟩ : ∃ x, duB p c n = x := ⟨_, rfl⟩
  obtain ⟨fu, hfu⟩ : ∃ x, fuB p n = x := ⟨_, rfl⟩
  obtain ⟨ex, hex⟩ : ∃ x, Cnt.more n.ex = x := ⟨_, rfl⟩
  obtain ⟨ho, hho⟩ : ∃ x, c.ho = x := ⟨_, rfl⟩
  have HE : Hid (sty p c n = if du then (if ho then { n with ex := ex } else { n with dn := true, mx := decide (0 < n.lf) && fu }) else n) := Lib.hid (by unfold sty; rw [hdu, hfu, hex, hho])
  have LO : Hid (∀ W, Calls Try.prog 28 #[.agg (tuC p r c).toArray] W fun e w' => e = .returned (.agg n.cells.toArray) ∧ Below W.heap.size W w') := Lib.hid (fun W => by rw [← hn]; exact longer_any p r c W)
  have DU : Hid (∀ W, Calls Try.prog 27 #[.agg (tuC p r c).toArray, .agg n.cells.toArray] W fun e w' => e = .returned (.bool du) ∧ Below W.heap.size W w') := Lib.hid (fun W => by rw [← hdu]; exact due_any p r c n W)
  have FU : Hid (∀ W, Calls Try.prog 54 #[.agg (tuC p r c).toArray, .agg n.cells.toArray] W fun e w' => e = .returned (.bool fu) ∧ Below W.heap.size W w') := Lib.hid (fun W => by rw [← hfu]; exact full_any p r c n W)
  have OM : Hid (∀ W, Calls Try.prog 55 #[.int .i64 n.ex] W fun e w' => e = .returned (.int .i64 ex) ∧ W = w') := Lib.hid (fun W => by rw [← hex]; exact oneMore_any _ W)
  clear hn hdu hfu hex
  have hn0 := Blk.Bks.nil w
  have hn1 := hn0.alloc (tuC p r c).toArray 57
  have hn2 := hn1.alloc #[I 0, I 0, I 0, I 0, I 0, I 0, I 0, .bool false, .bool false, I 0, I 0, I 0] 29
  rw [show (w.alloc (.cells (tuC p r c).toArray 57)).heap.size = w.heap.size + 1 by simp] at hn2
  clear hn0
  clear hn1
  go_enter Try.func45, Try.ntmps45
  go_upto_region 1 with fail
  generalize World.alloc (World.alloc w _) _ = v at hn2 ⊢
  generalize hg1 : w.heap.size + 1 = gz at hn2 ⊢
  generalize hg0 : w.heap.size = gt at hn2 ⊢
  clear hg0 hg1
  have H0 := Lib.hid hn2
  clear hn2
  go_wp2_with (refine Row.wpList_load_g 57 _ rfl (by first | rfl | (go_simp; done) | fail) ⟨gt, 0, none⟩ rfl (tuC p r c) _ (seg H0.out 1 0 rfl _ rfl) Try.underlying57 rfl infoTu ?_)
  refine (LO.out _).mono ?_
  rintro e v1 ⟨rfl, bc⟩
  have H1 := Lib.hid (H0.out.step bc)
  clear bc
  go_upto_region 2 with (refine Row.wpList_store_new rfl 29 _ _ rfl _ _ n.cells.toArray rfl rfl rfl infoRu rfl (one_ru _) ?_)
  have hn := H1.out.alloc n.cells.toArray 29
  generalize World.alloc v1 _ = v2 at hn ⊢
  generalize v1.heap.size = gn at hn ⊢
  have H2 := Lib.hid hn
  clear hn
  clear H0 H1 LO
  go_wp2_with (first | (refine Row.wpList_load_g 57 _ rfl (by first | rfl | (go_simp; done) | fail) ⟨gt, 0, none⟩ rfl (tuC p r c) _ (seg H2.out 2 0 rfl _ rfl) Try.underlying57 rfl infoTu ?_) | (refine Row.wpList_load_g 29 _ rfl (by first | rfl | (go_simp; done) | fail) ⟨gn, 0, none⟩ rfl n.cells _ (seg H2.out 0 0 rfl _ rfl) Try.underlying29 rfl infoRu ?_))
  refine (DU.out _).mono ?_
  rintro e v3 ⟨rfl, bc⟩
  have H3 := Lib.hid (H2.out.step bc)
  clear bc
  clear H2 DU
  cases du
  · replace HE : Hid (sty p c n = n) := Lib.hid (HE.out.trans (if_neg (by simp)))
    go_upto_region 3 with fail
    go_wp2_with (first | (refine Row.wpList_load_g 29 _ rfl (by first | rfl | (go_simp; done) | fail) ⟨gn, 0, none⟩ rfl n.cells _ (seg H3.out 0 0 rfl _ rfl) Try.underlying29 rfl infoRu ?_) | (refine wpList_store_row rfl 29 _ _ rfl gz n.cells.toArray rfl rfl 29 _ (H3.out.at 1 rfl) infoRu rfl (one_ru _) ?_))
    have hput := H3.out.put 1 rfl n.cells.toArray
    simp only [List.set_cons_succ, List.set_cons_zero] at hput
    generalize World.setRow v3 gz _ = vz at hput ⊢
    have HG := Lib.hid hput
    clear hput
    go_wp2_with fail
    (try simp only [Exit.inBlock, Exit.then])
    refine bodyPost_ret (v := .agg n.cells.toArray) ?_ rfl ⟨ret_ru HE.out.symm, HG.out.bel⟩
    exact results_cell_row rfl _ _ gz 29 _ (0, 0) _ rfl (HG.out.at 1 rfl) Try.underlying29 rfl infoRu
  replace HE := Lib.hid (HE.out.trans (if_pos rfl))
  go_upto_region 4 with fail
  have t_cho : v3.cell? ⟨gt, 30, none⟩ = some (.bool c.ho) := H3.out.cell 2 30 rfl rfl
  rw [hho] at t_cho
  cases ho
  rotate_left
  · replace HE : Hid (sty p c n = ⟨n.co, n.tm, n.fs, n.ft, n.lf, n.pr, ex, n.dn, n.mx, n.tl, n.tu, n.td⟩) := Lib.hid (HE.out.trans (if_pos rfl))
    go_upto_region 5 with fail
    clear t_cho
    have n_ex : v3.cell? ⟨gn, 6, none⟩ = some (I n.ex) := H3.out.cell 0 6 rfl rfl
    have f_ex : v3.frozen? ⟨gn, 6, none⟩ = false := H3.out.frozen 0 6 rfl
    go_upto_region 6 with (go_at_call 55; with_reducible refine (OM.out _).mono ?_; rintro e w' ⟨rfl, rfl⟩)
    have hput := H3.out.set 0 6 rfl (I ex)
    rw [show Array.setIfInBounds _ 6 (I ex) = (Ru.cells ⟨n.co, n.tm, n.fs, n.ft, n.lf, n.pr, ex, n.dn, n.mx, n.tl, n.tu, n.td⟩).toArray from rfl] at hput
    simp only [List.set_cons_succ, List.set_cons_zero] at hput
    generalize World.setCell v3 _ _ = v4 at hput ⊢
    have H4 := Lib.hid hput
    clear hput
    clear n_ex f_ex H3
    go_wp2_with (first | (refine Row.wpList_load_g 29 _ rfl (by first | rfl | (go_simp; done) | fail) ⟨gn, 0, none⟩ rfl (Ru.cells ⟨n.co, n.tm, n.fs, n.ft, n.lf, n.pr, ex, n.dn, n.mx, n.tl, n.tu, n.td⟩) _ (seg H4.out 0 0 rfl _ rfl) Try.underlying29 rfl infoRu ?_) | (refine wpList_store_row rfl 29 _ _ rfl gz (Ru.cells ⟨n.co, n.tm, n.fs, n.ft, n.lf, n.pr, ex, n.dn, n.mx, n.tl, n.tu, n.td⟩).toArray rfl rfl 29 _ (H4.out.at 1 rfl) infoRu rfl (one_ru _) ?_))
    have hput := H4.out.put 1 rfl (Ru.cells ⟨n.co, n.tm, n.fs, n.ft, n.lf, n.pr, ex, n.dn, n.mx, n.tl, n.tu, n.td⟩).toArray
    simp only [List.set_cons_succ, List.set_cons_zero] at hput
    generalize World.setRow v4 gz _ = vz at hput ⊢
    have HG := Lib.hid hput
    clear hput
    go_wp2_with fail
    (try simp only [Exit.inBlock, Exit.then])
    refine bodyPost_ret (v := .agg (Ru.cells ⟨n.co, n.tm, n.fs, n.ft, n.lf, n.pr, ex, n.dn, n.mx, n.tl, n.tu, n.td⟩).toArray) ?_ rfl ⟨ret_ru HE.out.symm, HG.out.bel⟩
    exact results_cell_row rfl _ _ gz 29 _ (0, 0) _ rfl (HG.out.at 1 rfl) Try.underlying29 rfl infoRu
  replace HE : Hid (sty p c n = { n with dn := true, mx := decide (0 < n.lf) && fu }) := Lib.hid (HE.out.trans (if_neg (by simp)))
  go_upto_region 7 with fail
  clear t_cho
  have n_lf : v3.cell? ⟨gn, 4, none⟩ = some (I n.lf) := H3.out.cell 0 4 rfl rfl
  by_cases hl : 0 < n.lf
  rotate_left
  · replace HE : Hid (sty p c n = ⟨n.co, n.tm, n.fs, n.ft, n.lf, n.pr, n.ex, true, false, n.tl, n.tu, n.td⟩) := Lib.hid (HE.out.trans (by rw [decide_eq_false hl]; rfl))
    have n_dn : v3.cell? ⟨gn, 7, none⟩ = some (.bool n.dn) := H3.out.cell 0 7 rfl rfl
    have f_dn : v3.frozen? ⟨gn, 7, none⟩ = false := H3.out.frozen 0 7 rfl
    have n_mx : v3.cell? ⟨gn, 8, none⟩ = some (.bool n.mx) := H3.out.cell 0 8 rfl rfl
    have f_mx : v3.frozen? ⟨gn, 8, none⟩ = false := H3.out.frozen 0 8 rfl
    go_upto_region 8 with fail
    clear n_lf n_dn f_dn n_mx f_mx
    have hput := (H3.out.set 0 7 rfl (.bool true)).set 0 8 rfl (.bool false)
    rw [show Array.setIfInBounds (Array.setIfInBounds _ 7 (.bool true)) 8 (.bool false) = (Ru.cells ⟨n.co, n.tm, n.fs, n.ft, n.lf, n.pr, n.ex, true, false, n.tl, n.tu, n.td⟩).toArray from rfl] at hput
    simp only [List.set_cons_succ, List.set_cons_zero] at hput
    generalize World.setCell (World.setCell v3 _ _) _ _ = v9 at hput ⊢
    have H9 := Lib.hid hput
    clear hput
    go_wp2_with (first | (refine Row.wpList_load_g 29 _ rfl (by first | rfl | (go_simp; done) | fail) ⟨gn, 0, none⟩ rfl (Ru.cells ⟨n.co, n.tm, n.fs, n.ft, n.lf, n.pr, n.ex, true, false, n.tl, n.tu, n.td⟩) _ (seg H9.out 0 0 rfl _ rfl) Try.underlying29 rfl infoRu ?_) | (refine wpList_store_row rfl 29 _ _ rfl gz (Ru.cells ⟨n.co, n.tm, n.fs, n.ft, n.lf, n.pr, n.ex, true, false, n.tl, n.tu, n.td⟩).toArray rfl rfl 29 _ (H9.out.at 1 rfl) infoRu rfl (one_ru _) ?_))
    have hput := H9.out.put 1 rfl (Ru.cells ⟨n.co, n.tm, n.fs, n.ft, n.lf, n.pr, n.ex, true, false, n.tl, n.tu, n.td⟩).toArray
    simp only [List.set_cons_succ, List.set_cons_zero] at hput
    generalize World.setRow v9 gz _ = vz at hput ⊢
    have HG := Lib.hid hput
    clear hput
    go_wp2_with fail
    (try simp only [Exit.inBlock, Exit.then])
    refine bodyPost_ret (v := .agg (Ru.cells ⟨n.co, n.tm, n.fs, n.ft, n.lf, n.pr, n.ex, true, false, n.tl, n.tu, n.td⟩).toArray) ?_ rfl ⟨ret_ru HE.out.symm, HG.out.bel⟩
    exact results_cell_row rfl _ _ gz 29 _ (0, 0) _ rfl (HG.out.at 1 rfl) Try.underlying29 rfl infoRu
  replace HE : Hid (sty p c n = ⟨n.co, n.tm, n.fs, n.ft, n.lf, n.pr, n.ex, true, fu, n.tl, n.tu, n.td⟩) := Lib.hid (HE.out.trans (by rw [decide_eq_true hl]; rfl))
  go_wp2_with (first | (refine Row.wpList_load_g 57 _ rfl (by first | rfl | (go_simp; done) | fail) ⟨gt, 0, none⟩ rfl (tuC p r c) _ (seg H3.out 2 0 rfl _ rfl) Try.underlying57 rfl infoTu ?_) | (refine Row.wpList_load_g 29 _ rfl (by first | rfl | (go_simp; done) | fail) ⟨gn, 0, none⟩ rfl n.cells _ (seg H3.out 0 0 rfl _ rfl) Try.underlying29 rfl infoRu ?_))
  refine (FU.out _).mono ?_
  rintro e v4 ⟨rfl, bc⟩
  have H4 := Lib.hid (H3.out.step bc)
  clear bc
  clear n_lf H3
  have n_dn : v4.cell? ⟨gn, 7, none⟩ = some (.bool n.dn) := H4.out.cell 0 7 rfl rfl
  have f_dn : v4.frozen? ⟨gn, 7, none⟩ = false := H4.out.frozen 0 7 rfl
  have n_mx : v4.cell? ⟨gn, 8, none⟩ = some (.bool n.mx) := H4.out.cell 0 8 rfl rfl
  have f_mx : v4.frozen? ⟨gn, 8, none⟩ = false := H4.out.frozen 0 8 rfl
  go_upto_region 8 with fail
  clear n_dn f_dn n_mx f_mx
  have hput := (H4.out.set 0 7 rfl (.bool true)).set 0 8 rfl (.bool fu)
  rw [show Array.setIfInBounds (Array.setIfInBounds _ 7 (.bool true)) 8 (.bool fu) = (Ru.cells ⟨n.co, n.tm, n.fs, n.ft, n.lf, n.pr, n.ex, true, fu, n.tl, n.tu, n.td⟩).toArray from rfl] at hput
  simp only [List.set_cons_succ, List.set_cons_zero] at hput
  generalize World.setCell (World.setCell v4 _ _) _ _ = v9 at hput ⊢
  have H9 := Lib.hid hput
  clear hput
  go_wp2_with (first | (refine Row.wpList_load_g 29 _ rfl (by first | rfl | (go_simp; done) | fail) ⟨gn, 0, none⟩ rfl (Ru.cells ⟨n.co, n.tm, n.fs, n.ft, n.lf, n.pr, n.ex, true, fu, n.tl, n.tu, n.td⟩) _ (seg H9.out 0 0 rfl _ rfl) Try.underlying29 rfl infoRu ?_) | (refine wpList_store_row rfl 29 _ _ rfl gz (Ru.cells ⟨n.co, n.tm, n.fs, n.ft, n.lf, n.pr, n.ex, true, fu, n.tl, n.tu, n.td⟩).toArray rfl rfl 29 _ (H9.out.at 1 rfl) infoRu rfl (one_ru _) ?_))
  have hput := H9.out.put 1 rfl (Ru.cells ⟨n.co, n.tm, n.fs, n.ft, n.lf, n.pr, n.ex, true, fu, n.tl, n.tu, n.td⟩).toArray
  simp only [List.set_cons_succ, List.set_cons_zero] at hput
  generalize World.setRow v9 gz _ = vz at hput ⊢
  have HG := Lib.hid hput
  clear hput
  go_wp2_with fail
  (try simp only [Exit.inBlock, Exit.then])
  refine bodyPost_ret (v := .agg (Ru.cells ⟨n.co, n.tm, n.fs, n.ft, n.lf, n.pr, n.ex, true, fu, n.tl, n.tu, n.td⟩).toArray) ?_ rfl ⟨ret_ru HE.out.symm, HG.out.bel⟩
  exact results_cell_row rfl _ _ gz 29 _ (0, 0) _ rfl (HG.out.at 1 rfl) Try.underlying29 rfl infoRu
theorem yellow_any (p : Ph) (r : Ru) (c : Cu) (w : World) : Calls Try.prog 46 #[.agg (tuC p r c).toArray] w fun e w' => e = .returned (.agg (Ru.cells (yel p r)).toArray) ∧ Below w.heap.size w w' := by
  obtain ⟨tm, htm⟩ : ∃ x, r.tm = x := ⟨_, rfl⟩
  obtain ⟨ye, hye⟩ : ∃ x, p.yellow = x := ⟨_, rfl⟩
  obtain ⟨re, hre⟩ : ∃ x, p.red = x := ⟨_, rfl⟩
  by_cases h1 : tm < ye
  · have HE : Hid (yel p r = lst r 2) := Lib.hid (by unfold yel; rw [htm, hye, if_pos h1])
    have F1 : Hid (∀ W, Calls Try.prog 71 #[.agg (tuC p r c).toArray, .int .i64 2] W fun e w' => e = .returned (.agg (Ru.cells (lst r 2)).toArray) ∧ Below W.heap.size W w') := Lib.hid (fun W => last_any p r c 2 W)
    have hn0 := Blk.Bks.nil w
    have hn1 := hn0.alloc (tuC p r c).toArray 57
    have hn2 := hn1.alloc #[I 0, I 0, I 0, I 0, I 0, I 0, I 0, .bool false, .bool false, I 0, I 0, I 0] 29
    rw [show (w.alloc (.cells (tuC p r c).toArray 57)).heap.size = w.heap.size + 1 by simp] at hn2
    clear hn0
    clear hn1
    go_enter Try.func46, Try.ntmps46
    go_upto_region 1 with fail
    generalize World.alloc (World.alloc w _) _ = v at hn2 ⊢
    generalize hg1 : w.heap.size + 1 = gz at hn2 ⊢
    generalize hg0 : w.heap.size = gt at hn2 ⊢
    clear hg0 hg1
    have H0 := Lib.hid hn2
    clear hn2
    have t_rtm : v.cell? ⟨gt, 14, none⟩ = some (I r.tm) := H0.out.cell 1 14 rfl rfl
    have t_pyellow : v.cell? ⟨gt, 6, none⟩ = some (I p.yellow) := H0.out.cell 1 6 rfl rfl
    have t_pred : v.cell? ⟨gt, 7, none⟩ = some (I p.red) := H0.out.cell 1 7 rfl rfl
    rw [htm] at t_rtm
    rw [hye] at t_pyellow
    rw [hre] at t_pred
    clear htm hye hre
    go_wp2_with (refine Row.wpList_load_g 57 _ rfl (by first | rfl | (go_simp; done) | fail) ⟨gt, 0, none⟩ rfl (tuC p r c) _ (seg H0.out 1 0 rfl _ rfl) Try.underlying57 rfl infoTu ?_)
    refine (F1.out _).mono ?_
    rintro e vc ⟨rfl, bc⟩
    have HD := Lib.hid (H0.out.step bc)
    clear bc
    go_wp2_with (refine wpList_store_row rfl 29 _ _ rfl gz (Ru.cells (lst r 2)).toArray rfl rfl 29 _ (HD.out.at 0 rfl) infoRu rfl (one_ru _) ?_)
    have hput := HD.out.put 0 rfl (Ru.cells (lst r 2)).toArray
    simp only [List.set_cons_succ, List.set_cons_zero] at hput
    generalize World.setRow vc gz _ = vz at hput ⊢
    have HG := Lib.hid hput
    clear hput
    go_wp2_with fail
    (try simp only [Exit.inBlock, Exit.then])
    refine bodyPost_ret (v := .agg (Ru.cells (lst r 2)).toArray) ?_ rfl ⟨ret_ru HE.out.symm, HG.out.bel⟩
    exact results_cell_row rfl _ _ gz 29 _ (0, 0) _ rfl (HG.out.at 0 rfl) Try.underlying29 rfl infoRu
  by_cases h2 : 0 < re
  · have HE : Hid (yel p r = fst r 3) := Lib.hid (by unfold yel; rw [htm, hye, hre, if_neg h1, if_pos h2])
    have F1 : Hid (∀ W, Calls Try.prog 69 #[.agg (tuC p r c).toArray, .int .i64 3] W fun e w' => e = .returned (.agg (Ru.cells (fst r 3)).toArray) ∧ Below W.heap.size W w') := Lib.hid (fun W => first_any p r c 3 W)
    have hn0 := Blk.Bks.nil w
    have hn1 := hn0.alloc (tuC p r c).toArray 57
    have hn2 := hn1.alloc #[I 0, I 0, I 0, I 0, I 0, I 0, I 0, .bool false, .bool false, I 0, I 0, I 0] 29
    rw [show (w.alloc (.cells (tuC p r c).toArray 57)).heap.size = w.heap.size + 1 by simp] at hn2
    clear hn0
    clear hn1
    go_enter Try.func46, Try.ntmps46
    go_upto_region 1 with fail
    generalize World.alloc (World.alloc w _) _ = v at hn2 ⊢
    generalize hg1 : w.heap.size + 1 = gz at hn2 ⊢
    generalize hg0 : w.heap.size = gt at hn2 ⊢
    clear hg0 hg1
    have H0 := Lib.hid hn2
    clear hn2
    have t_rtm : v.cell? ⟨gt, 14, none⟩ = some (I r.tm) := H0.out.cell 1 14 rfl rfl
    have t_pyellow : v.cell? ⟨gt, 6, none⟩ = some (I p.yellow) := H0.out.cell 1 6 rfl rfl
    have t_pred : v.cell? ⟨gt, 7, none⟩ = some (I p.red) := H0.out.cell 1 7 rfl rfl
    rw [htm] at t_rtm
    rw [hye] at t_pyellow
    rw [hre] at t_pred
    clear htm hye hre
    go_wp2_with (refine Row.wpList_load_g 57 _ rfl (by first | rfl | (go_simp; done) | fail) ⟨gt, 0, none⟩ rfl (tuC p r c) _ (seg H0.out 1 0 rfl _ rfl) Try.underlying57 rfl infoTu ?_)
    refine (F1.out _).mono ?_
    rintro e vc ⟨rfl, bc⟩
    have HD := Lib.hid (H0.out.step bc)
    clear bc
    go_wp2_with (refine wpList_store_row rfl 29 _ _ rfl gz (Ru.cells (fst r 3)).toArray rfl rfl 29 _ (HD.out.at 0 rfl) infoRu rfl (one_ru _) ?_)
    have hput := HD.out.put 0 rfl (Ru.cells (fst r 3)).toArray
    simp only [List.set_cons_succ, List.set_cons_zero] at hput
    generalize World.setRow vc gz _ = vz at hput ⊢
    have HG := Lib.hid hput
    clear hput
    go_wp2_with fail
    (try simp only [Exit.inBlock, Exit.then])
    refine bodyPost_ret (v := .agg (Ru.cells (fst r 3)).toArray) ?_ rfl ⟨ret_ru HE.out.symm, HG.out.bel⟩
    exact results_cell_row rfl _ _ gz 29 _ (0, 0) _ rfl (HG.out.at 0 rfl) Try.underlying29 rfl infoRu
  · have HE : Hid (yel p r = fst r 0) := Lib.hid (by unfold yel; rw [htm, hye, hre, if_neg h1, if_neg h2])
    have F1 : Hid (∀ W, Calls Try.prog 69 #[.agg (tuC p r c).toArray, .int .i64 0] W fun e w' => e = .returned (.agg (Ru.cells (fst r 0)).toArray) ∧ Below W.heap.size W w') := Lib.hid (fun W => first_any p r c 0 W)
    have hn0 := Blk.Bks.nil w
    have hn1 := hn0.alloc (tuC p r c).toArray 57
    have hn2 := hn1.alloc #[I 0, I 0, I 0, I 0, I 0, I 0, I 0, .bool false, .bool false, I 0, I 0, I 0] 29
    rw [show (w.alloc (.cells (tuC p r c).toArray 57)).heap.size = w.heap.size + 1 by simp] at hn2
    clear hn0
    clear hn1
    go_enter Try.func46, Try.ntmps46
    go_upto_region 1 with fail
    generalize World.alloc (World.alloc w _) _ = v at hn2 ⊢
    generalize hg1 : w.heap.size + 1 = gz at hn2 ⊢
    generalize hg0 : w.heap.size = gt at hn2 ⊢
    clear hg0 hg1
    have H0 := Lib.hid hn2
    clear hn2
    have t_rtm : v.cell? ⟨gt, 14, none⟩ = some (I r.tm) := H0.out.cell 1 14 rfl rfl
    have t_pyellow : v.cell? ⟨gt, 6, none⟩ = some (I p.yellow) := H0.out.cell 1 6 rfl rfl
    have t_pred : v.cell? ⟨gt, 7, none⟩ = some (I p.red) := H0.out.cell 1 7 rfl rfl
    rw [htm] at t_rtm
    rw [hye] at t_pyellow
    rw [hre] at t_pred
    clear htm hye hre
    go_wp2_with (refine Row.wpList_load_g 57 _ rfl (by first | rfl | (go_simp; done) | fail) ⟨gt, 0, none⟩ rfl (tuC p r c) _ (seg H0.out 1 0 rfl _ rfl) Try.underlying57 rfl infoTu ?_)
    refine (F1.out _).mono ?_
    rintro e vc ⟨rfl, bc⟩
    have HD := Lib.hid (H0.out.step bc)
    clear bc
    go_wp2_with (refine wpList_store_row rfl 29 _ _ rfl gz (Ru.cells (fst r 0)).toArray rfl rfl 29 _ (HD.out.at 0 rfl) infoRu rfl (one_ru _) ?_)
    have hput := HD.out.put 0 rfl (Ru.cells (fst r 0)).toArray
    simp only [List.set_cons_succ, List.set_cons_zero] at hput
    generalize World.setRow vc gz _ = vz at hput ⊢
    have HG := Lib.hid hput
    clear hput
    go_wp2_with fail
    (try simp only [Exit.inBlock, Exit.then])
    refine bodyPost_ret (v := .agg (Ru.cells (fst r 0)).toArray) ?_ rfl ⟨ret_ru HE.out.symm, HG.out.bel⟩
    exact results_cell_row rfl _ _ gz 29 _ (0, 0) _ rfl (HG.out.at 0 rfl) Try.underlying29 rfl infoRu
theorem clearance_any (p : Ph) (r : Ru) (c : Cu) (w : World) : Calls Try.prog 47 #[.agg (tuC p r c).toArray] w fun e w' => e = .returned (.agg (Ru.cells (cle p r)).toArray) ∧ Below w.heap.size w w' := by
  obtain ⟨tm, htm⟩ : ∃ x, r.tm = x := ⟨_, rfl⟩
  obtain ⟨ye, hye⟩ : ∃ x, p.yellow = x := ⟨_, rfl⟩
  obtain ⟨re, hre⟩ : ∃ x, p.red = x := ⟨_, rfl⟩
  by_cases h1 : tm < re
  · have HE : Hid (cle p r = lst r 3) := Lib.hid (by unfold cle; rw [htm, hre, if_pos h1])
    have F1 : Hid (∀ W, Calls Try.prog 71 #[.agg (tuC p r c).toArray, .int .i64 3] W fun e w' => e = .returned (.agg (Ru.cells (lst r 3)).toArray) ∧ Below W.heap.size W w') := Lib.hid (fun W => last_any p r c 3 W)
    have hn0 := Blk.Bks.nil w
    have hn1 := hn0.alloc (tuC p r c).toArray 57
    have hn2 := hn1.alloc #[I 0, I 0, I 0, I 0, I 0, I 0, I 0, .bool false, .bool false, I 0, I 0, I 0] 29
    rw [show (w.alloc (.cells (tuC p r c).toArray 57)).heap.size = w.heap.size + 1 by simp] at hn2
    clear hn0
    clear hn1
    go_enter Try.func47, Try.ntmps47
    go_upto_region 1 with fail
    generalize World.alloc (World.alloc w _) _ = v at hn2 ⊢
    generalize hg1 : w.heap.size + 1 = gz at hn2 ⊢
    generalize hg0 : w.heap.size = gt at hn2 ⊢
    clear hg0 hg1
    have H0 := Lib.hid hn2
    clear hn2
    have t_rtm : v.cell? ⟨gt, 14, none⟩ = some (I r.tm) := H0.out.cell 1 14 rfl rfl
    have t_pred : v.cell? ⟨gt, 7, none⟩ = some (I p.red) := H0.out.cell 1 7 rfl rfl
    rw [htm] at t_rtm
    rw [hre] at t_pred
    clear htm hye hre
    go_wp2_with (refine Row.wpList_load_g 57 _ rfl (by first | rfl | (go_simp; done) | fail) ⟨gt, 0, none⟩ rfl (tuC p r c) _ (seg H0.out 1 0 rfl _ rfl) Try.underlying57 rfl infoTu ?_)
    refine (F1.out _).mono ?_
    rintro e vc ⟨rfl, bc⟩
    have HD := Lib.hid (H0.out.step bc)
    clear bc
    go_wp2_with (refine wpList_store_row rfl 29 _ _ rfl gz (Ru.cells (lst r 3)).toArray rfl rfl 29 _ (HD.out.at 0 rfl) infoRu rfl (one_ru _) ?_)
    have hput := HD.out.put 0 rfl (Ru.cells (lst r 3)).toArray
    simp only [List.set_cons_succ, List.set_cons_zero] at hput
    generalize World.setRow vc gz _ = vz at hput ⊢
    have HG := Lib.hid hput
    clear hput
    go_wp2_with fail
    (try simp only [Exit.inBlock, Exit.then])
    refine bodyPost_ret (v := .agg (Ru.cells (lst r 3)).toArray) ?_ rfl ⟨ret_ru HE.out.symm, HG.out.bel⟩
    exact results_cell_row rfl _ _ gz 29 _ (0, 0) _ rfl (HG.out.at 0 rfl) Try.underlying29 rfl infoRu
  · have HE : Hid (cle p r = fst r 0) := Lib.hid (by unfold cle; rw [htm, hre, if_neg h1])
    have F1 : Hid (∀ W, Calls Try.prog 69 #[.agg (tuC p r c).toArray, .int .i64 0] W fun e w' => e = .returned (.agg (Ru.cells (fst r 0)).toArray) ∧ Below W.heap.size W w') := Lib.hid (fun W => first_any p r c 0 W)
    have hn0 := Blk.Bks.nil w
    have hn1 := hn0.alloc (tuC p r c).toArray 57
    have hn2 := hn1.alloc #[I 0, I 0, I 0, I 0, I 0, I 0, I 0, .bool false, .bool false, I 0, I 0, I 0] 29
    rw [show (w.alloc (.cells (tuC p r c).toArray 57)).heap.size = w.heap.size + 1 by simp] at hn2
    clear hn0
    clear hn1
    go_enter Try.func47, Try.ntmps47
    go_upto_region 1 with fail
    generalize World.alloc (World.alloc w _) _ = v at hn2 ⊢
    generalize hg1 : w.heap.size + 1 = gz at hn2 ⊢
    generalize hg0 : w.heap.size = gt at hn2 ⊢
    clear hg0 hg1
    have H0 := Lib.hid hn2
    clear hn2
    have t_rtm : v.cell? ⟨gt, 14, none⟩ = some (I r.tm) := H0.out.cell 1 14 rfl rfl
    have t_pred : v.cell? ⟨gt, 7, none⟩ = some (I p.red) := H0.out.cell 1 7 rfl rfl
    rw [htm] at t_rtm
    rw [hre] at t_pred
    clear htm hye hre
    go_wp2_with (refine Row.wpList_load_g 57 _ rfl (by first | rfl | (go_simp; done) | fail) ⟨gt, 0, none⟩ rfl (tuC p r c) _ (seg H0.out 1 0 rfl _ rfl) Try.underlying57 rfl infoTu ?_)
    refine (F1.out _).mono ?_
    rintro e vc ⟨rfl, bc⟩
    have HD := Lib.hid (H0.out.step bc)
    clear bc
    go_wp2_with (refine wpList_store_row rfl 29 _ _ rfl gz (Ru.cells (fst r 0)).toArray rfl rfl 29 _ (HD.out.at 0 rfl) infoRu rfl (one_ru _) ?_)
    have hput := HD.out.put 0 rfl (Ru.cells (fst r 0)).toArray
    simp only [List.set_cons_succ, List.set_cons_zero] at hput
    generalize World.setRow vc gz _ = vz at hput ⊢
    have HG := Lib.hid hput
    clear hput
    go_wp2_with fail
    (try simp only [Exit.inBlock, Exit.then])
    refine bodyPost_ret (v := .agg (Ru.cells (fst r 0)).toArray) ?_ rfl ⟨ret_ru HE.out.symm, HG.out.bel⟩
    exact results_cell_row rfl _ _ gz 29 _ (0, 0) _ rfl (HG.out.at 0 rfl) Try.underlying29 rfl infoRu
theorem red_any (p : Ph) (r : Ru) (c : Cu) (w : World) : Calls Try.prog 48 #[.agg (tuC p r c).toArray] w fun e w' => e = .returned (.agg (Ru.cells (rdR p r c)).toArray) ∧ Below w.heap.size w w' := by
  obtain ⟨st, hst⟩ : ∃ x, c.st = x := ⟨_, rfl⟩
  cases st
  · have HE : Hid (rdR p r c = lst r 0) := Lib.hid (by unfold rdR; rw [hst]; rfl)
    have F1 : Hid (∀ W, Calls Try.prog 71 #[.agg (tuC p r c).toArray, .int .i64 0] W fun e w' => e = .returned (.agg (Ru.cells (lst r 0)).toArray) ∧ Below W.heap.size W w') := Lib.hid (fun W => last_any p r c 0 W)
    have hn0 := Blk.Bks.nil w
    have hn1 := hn0.alloc (tuC p r c).toArray 57
    have hn2 := hn1.alloc #[I 0, I 0, I 0, I 0, I 0, I 0, I 0, .bool false, .bool false, I 0, I 0, I 0] 29
    rw [show (w.alloc (.cells (tuC p r c).toArray 57)).heap.size = w.heap.size + 1 by simp] at hn2
    clear hn0
    clear hn1
    go_enter Try.func48, Try.ntmps48
    go_upto_region 1 with fail
    generalize World.alloc (World.alloc w _) _ = v at hn2 ⊢
    generalize hg1 : w.heap.size + 1 = gz at hn2 ⊢
    generalize hg0 : w.heap.size = gt at hn2 ⊢
    clear hg0 hg1
    have H0 := Lib.hid hn2
    clear hn2
    have t_cst : v.cell? ⟨gt, 25, none⟩ = some (.bool c.st) := H0.out.cell 1 25 rfl rfl
    rw [hst] at t_cst
    go_wp2_with (refine Row.wpList_load_g 57 _ rfl (by first | rfl | (go_simp; done) | fail) ⟨gt, 0, none⟩ rfl (tuC p r c) _ (seg H0.out 1 0 rfl _ rfl) Try.underlying57 rfl infoTu ?_)
    refine (F1.out _).mono ?_
    rintro e vc ⟨rfl, bc⟩
    have HD := Lib.hid (H0.out.step bc)
    clear bc
    go_wp2_with (refine wpList_store_row rfl 29 _ _ rfl gz (Ru.cells (lst r 0)).toArray rfl rfl 29 _ (HD.out.at 0 rfl) infoRu rfl (one_ru _) ?_)
    have hput := HD.out.put 0 rfl (Ru.cells (lst r 0)).toArray
    simp only [List.set_cons_succ, List.set_cons_zero] at hput
    generalize World.setRow vc gz _ = vz at hput ⊢
    have HG := Lib.hid hput
    clear hput
    go_wp2_with fail
    (try simp only [Exit.inBlock, Exit.then])
    refine bodyPost_ret (v := .agg (Ru.cells (lst r 0)).toArray) ?_ rfl ⟨ret_ru HE.out.symm, HG.out.bel⟩
    exact results_cell_row rfl _ _ gz 29 _ (0, 0) _ rfl (HG.out.at 0 rfl) Try.underlying29 rfl infoRu
  · obtain ⟨⟨a, b⟩, hf⟩ : ∃ x, ft p.walk p.blinks 0 0 c.pu = x := ⟨_, rfl⟩
    have HE : Hid (rdR p r c = ⟨1, 1, a, b, p.gap, 0, 0, false, false, r.tl, r.tu, r.td⟩) := Lib.hid (by unfold rdR; rw [hst, hf]; rfl)
    have F1 : Hid (∀ W, Calls Try.prog 69 #[.agg (tuC p r c).toArray, .int .i64 1] W fun e w' => e = .returned (.agg (Ru.cells (fst r 1)).toArray) ∧ Below W.heap.size W w') := Lib.hid (fun W => first_any p r c 1 W)
    have SE : Hid (∀ W, Calls Try.prog 72 #[.agg p.cells.toArray, .agg #[I 0, I 0], .bool c.pu] W fun e w' => e = .returned (.agg #[I a, I b]) ∧ Below W.heap.size W w') := Lib.hid (fun W => Ped.step_is hf W)
    clear hf
    have hn0 := Blk.Bks.nil w
    have hn1 := hn0.alloc (tuC p r c).toArray 57
    have hn2 := hn1.alloc #[I 0, I 0, I 0, I 0, I 0, I 0, I 0, .bool false, .bool false, I 0, I 0, I 0] 29
    rw [show (w.alloc (.cells (tuC p r c).toArray 57)).heap.size = w.heap.size + 1 by simp] at hn2
    clear hn0
    clear hn1
    go_enter Try.func48, Try.ntmps48
    go_upto_region 1 with fail
    generalize World.alloc (World.alloc w _) _ = v at hn2 ⊢
    generalize hg1 : w.heap.size + 1 = gz at hn2 ⊢
    generalize hg0 : w.heap.size = gt at hn2 ⊢
    clear hg0 hg1
    have H0 := Lib.hid hn2
    clear hn2
    have t_cst : v.cell? ⟨gt, 25, none⟩ = some (.bool c.st) := H0.out.cell 1 25 rfl rfl
    rw [hst] at t_cst
    go_wp2_with (refine Row.wpList_load_g 57 _ rfl (by first | rfl | (go_simp; done) | fail) ⟨gt, 0, none⟩ rfl (tuC p r c) _ (seg H0.out 1 0 rfl _ rfl) Try.underlying57 rfl infoTu ?_)
    refine (F1.out _).mono ?_
    rintro e v1 ⟨rfl, bc⟩
    have H1 := Lib.hid (H0.out.step bc)
    clear bc
    go_upto_region 4 with (refine Row.wpList_store_new rfl 29 _ _ rfl _ _ (Ru.cells (fst r 1)).toArray rfl rfl rfl infoRu rfl (one_ru _) ?_)
    have hn := H1.out.alloc (Ru.cells (fst r 1)).toArray 29
    generalize World.alloc v1 _ = v2 at hn ⊢
    generalize v1.heap.size = gn at hn ⊢
    have H2 := Lib.hid hn
    clear hn
    clear H0 H1 F1 t_cst
    have t_cpu : v2.cell? ⟨gt, 28, none⟩ = some (.bool c.pu) := H2.out.cell 2 28 rfl rfl
    go_wp2_with (first | (refine Row.wpList_load_g 23 _ rfl (by first | rfl | (go_simp; done) | fail) ⟨gt, 0, none⟩ rfl p.cells _ (seg H2.out 2 0 rfl _ rfl) Try.underlying23 rfl infoP ?_) | (refine wpList_build rfl 25 [] rfl #[I 0, I 0] [] rfl built0 ?_))
    refine (SE.out _).mono ?_
    rintro e v3 ⟨rfl, bc⟩
    have H3 := Lib.hid (H2.out.step bc)
    clear bc
    go_upto_region 5 with (refine store_mid rfl 25 _ _ rfl gn 2 #[I a, I b] rfl rfl 29 _ (Ru.cells ⟨1, 1, a, b, 0, 0, 0, false, false, r.tl, r.tu, r.td⟩).toArray H3.out 0 rfl infoFt (by first | decide | (simp [Ru.cells]; done) | fail) (by simp [Value.oneCell']) rfl ?_)
    have hput := H3.out.put 0 rfl (Ru.cells ⟨1, 1, a, b, 0, 0, 0, false, false, r.tl, r.tu, r.td⟩).toArray
    simp only [List.set_cons_succ, List.set_cons_zero] at hput
    generalize World.setRow _ gn _ = v4 at hput ⊢
    have H4 := Lib.hid hput
    clear hput
    clear H2 H3 SE t_cpu
    have t_pgap : v4.cell? ⟨gt, 2, none⟩ = some (I p.gap) := H4.out.cell 2 2 rfl rfl
    have n_lf : v4.cell? ⟨gn, 4, none⟩ = some (I 0) := H4.out.cell 0 4 rfl rfl
    have f_lf : v4.frozen? ⟨gn, 4, none⟩ = false := H4.out.frozen 0 4 rfl
    go_upto_region 6 with fail
    have hput := H4.out.set 0 4 rfl (I p.gap)
    rw [show Array.setIfInBounds _ 4 (I p.gap) = (Ru.cells ⟨1, 1, a, b, p.gap, 0, 0, false, false, r.tl, r.tu, r.td⟩).toArray from rfl] at hput
    simp only [List.set_cons_succ, List.set_cons_zero] at hput
    generalize World.setCell v4 _ _ = v5 at hput ⊢
    have H5 := Lib.hid hput
    clear hput
    clear H4 n_lf f_lf t_pgap
    go_wp2_with (first | (refine Row.wpList_load_g 29 _ rfl (by first | rfl | (go_simp; done) | fail) ⟨gn, 0, none⟩ rfl (Ru.cells ⟨1, 1, a, b, p.gap, 0, 0, false, false, r.tl, r.tu, r.td⟩) _ (seg H5.out 0 0 rfl _ rfl) Try.underlying29 rfl infoRu ?_) | (refine wpList_store_row rfl 29 _ _ rfl gz (Ru.cells ⟨1, 1, a, b, p.gap, 0, 0, false, false, r.tl, r.tu, r.td⟩).toArray rfl rfl 29 _ (H5.out.at 1 rfl) infoRu rfl (one_ru _) ?_))
    have hput := H5.out.put 1 rfl (Ru.cells ⟨1, 1, a, b, p.gap, 0, 0, false, false, r.tl, r.tu, r.td⟩).toArray
    simp only [List.set_cons_succ, List.set_cons_zero] at hput
    generalize World.setRow v5 gz _ = vz at hput ⊢
    have HG := Lib.hid hput
    clear hput
    go_wp2_with fail
    (try simp only [Exit.inBlock, Exit.then])
    refine bodyPost_ret (v := .agg (Ru.cells ⟨1, 1, a, b, p.gap, 0, 0, false, false, r.tl, r.tu, r.td⟩).toArray) ?_ rfl ⟨ret_ru HE.out.symm, HG.out.bel⟩
    exact results_cell_row rfl _ _ gz 29 _ (0, 0) _ rfl (HG.out.at 1 rfl) Try.underlying29 rfl infoRu
end Ru
end Go.Proofs.Ytbpfknkbiaplpaa
