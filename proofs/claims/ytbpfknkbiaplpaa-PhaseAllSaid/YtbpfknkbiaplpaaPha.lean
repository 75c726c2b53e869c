/- Package phase: contracts of oneMore, stands, first, last, full, foot. -/
import Derived.Test.YtbpfknkbiaplpaaRu
namespace Go.Proofs.Ytbpfknkbiaplpaa.Ru
open Go Go.ChangeShapes Go.WideShapes Go.ChangeAt Go.RowKit
open Tab Flat TabArg QL
open May (infoP)
open Ped (ft cu idl Ft infoFt)
open Gap (lm lf gr Tn infoTn)
set_option linter.unusedVariables false
set_option linter.unusedSimpArgs false
set_option maxRecDepth 100000
theorem oneMore_any (n : Int) (w : World) : Calls Try.prog 55 #[.int .i64 n] w fun e w' => e = .returned (.int .i64 (Cnt.more n)) ∧ w = w' := by
  by_cases h1 : n < 0
  · have HE : Hid (Cnt.more n = 1) := Lib.hid (by unfold Cnt.more Cnt.ct; rw [if_pos h1]; rfl)
    have em : max n 0 = 0 := by omega
    go_enter Try.func55, Try.ntmps55
    go_wp2
    go_ret
    exact ⟨Cnt.ret_int HE.out.symm, rfl⟩
  by_cases h2 : 9999 < n
  · have HE : Hid (Cnt.more n = 10000) := Lib.hid (by unfold Cnt.more Cnt.ct; rw [if_neg h1, if_pos h2]; rfl)
    go_enter Try.func55, Try.ntmps55
    go_wp2
    go_ret
    exact ⟨Cnt.ret_int HE.out.symm, rfl⟩
  · have HE : Hid (Cnt.more n = n + 1) := Lib.hid (by unfold Cnt.more Cnt.ct; rw [if_neg h1, if_neg h2])
    have e1 : IntKind.i64.wrap (n + 1) = n + 1 := by rw [IntKind.wrap_i64]; omega
    go_enter Try.func55, Try.ntmps55
    go_wp2
    go_ret
    exact ⟨Cnt.ret_int HE.out.symm, rfl⟩
theorem oneMoreB (n : Int) (w : World) : Calls Try.prog 55 #[.int .i64 n] w fun e w' => e = .returned (.int .i64 (Cnt.more n)) ∧ Below w.heap.size w w' := (oneMore_any n w).mono fun e w' h => ⟨h.1, h.2 ▸ Below.refl _ _⟩
set_option maxHeartbeats 4000000 in
theorem stands_any (s t : Int) (w : World) : Calls Try.prog 53 #[.agg #[I s, I t]] w fun e w' => e = .returned (.bool (idl s)) ∧ Below w.heap.size w w' := by
  by_cases h1 : s = 1
  · subst h1
    have HE : Hid (idl 1 = false) := Lib.hid (by decide)
    have hn0 := Blk.Bks.nil w
    have hn1 := hn0.alloc #[I 1, I t] 25
    clear hn0
    go_enter Try.func53, Try.ntmps53
    go_upto_region 1 with fail
    generalize World.alloc w _ = v at hn1 ⊢
    generalize hg0 : w.heap.size = gs at hn1 ⊢
    clear hg0
    have H0 := Lib.hid hn1
    clear hn1
    have c0 : v.cell? ⟨gs, 0, none⟩ = some (I 1) := H0.out.cell 0 0 rfl rfl
    go_wp2
    go_ret
    exact ⟨ret_bool (by first | exact HE.out.symm | rfl), H0.out.bel⟩
  by_cases h2 : s = 2
  · subst h2
    have HE : Hid (idl 2 = false) := Lib.hid (by decide)
    have hn0 := Blk.Bks.nil w
    have hn1 := hn0.alloc #[I 2, I t] 25
    clear hn0
    go_enter Try.func53, Try.ntmps53
    go_upto_region 1 with fail
    generalize World.alloc w _ = v at hn1 ⊢
    generalize hg0 : w.heap.size = gs at hn1 ⊢
    clear hg0
    have H0 := Lib.hid hn1
    clear hn1
    have c0 : v.cell? ⟨gs, 0, none⟩ = some (I 2) := H0.out.cell 0 0 rfl rfl
    go_wp2
    go_ret
    exact ⟨ret_bool (by first | exact HE.out.symm | rfl), H0.out.bel⟩
  · have HE : Hid (idl s = true) := Lib.hid (by unfold idl; simp [h1, h2])
    have hn0 := Blk.Bks.nil w
    have hn1 := hn0.alloc #[I s, I t] 25
    clear hn0
    go_enter Try.func53, Try.ntmps53
    go_upto_region 1 with fail
    generalize World.alloc w _ = v at hn1 ⊢
    generalize hg0 : w.heap.size = gs at hn1 ⊢
    clear hg0
    have H0 := Lib.hid hn1
    clear hn1
    have c0 : v.cell? ⟨gs, 0, none⟩ = some (I s) := H0.out.cell 0 0 rfl rfl
    go_wp2
    go_ret
    exact ⟨ret_bool (by first | exact HE.out.symm | rfl), H0.out.bel⟩
set_option maxHeartbeats 4000000 in
theorem first_any (p : Ph) (r : Ru) (c : Cu) (k : Int) (w : World) : Calls Try.prog 69 #[.agg (tuC p r c).toArray, .int .i64 k] w fun e w' => e = .returned (.agg (Ru.cells (fst r k)).toArray) ∧ Below w.heap.size w w' := by
  have hn0 := Blk.Bks.nil w
  have hn1 := hn0.alloc (tuC p r c).toArray 57
  have hn2 := hn1.alloc #[I 0, I 0, I 0, I 0, I 0, I 0, I 0, .bool false, .bool false, I 0, I 0, I 0] 29
  rw [show (w.alloc (.cells (tuC p r c).toArray 57)).heap.size = w.heap.size + 1 by simp] at hn2
  clear hn0
  clear hn1
  go_enter Try.func69, Try.ntmps69
  go_upto_region 1 with fail
  generalize World.alloc (World.alloc w _) _ = v at hn2 ⊢
  generalize hg1 : w.heap.size + 1 = gz at hn2 ⊢
  generalize hg0 : w.heap.size = gt at hn2 ⊢
  clear hg0 hg1
  have H0 := Lib.hid hn2
  clear hn2
  go_wp2_with (first | (refine Row.wpList_load_g 27 _ rfl (by first | rfl | (go_simp; done) | fail) ⟨gt, 22, none⟩ rfl [I r.tl, I r.tu, I r.td] _ (seg H0.out 1 22 rfl _ rfl) Try.underlying27 rfl infoTn ?_) | (refine wpList_build rfl 29 [(0, .tmp 5), (1, .const (I 1)), (8, .tmp 8)] rfl (Ru.cells (fst r k)).toArray _ (by rfl) (built3 k 1 r.tl r.tu r.td) ?_) | (refine wpList_store_row rfl 29 _ _ rfl gz (Ru.cells (fst r k)).toArray rfl rfl 29 _ (H0.out.at 0 rfl) infoRu rfl (one_ru _) ?_))
  have hput := H0.out.put 0 rfl (Ru.cells (fst r k)).toArray
  simp only [List.set_cons_succ, List.set_cons_zero] at hput
  generalize World.setRow v gz _ = v2 at hput ⊢
  have HG := Lib.hid hput
  clear hput
  go_wp2_with fail
  (try simp only [Exit.inBlock, Exit.then])
  refine bodyPost_ret (v := .agg (Ru.cells (fst r k)).toArray) ?_ rfl ⟨rfl, HG.out.bel⟩
  exact results_cell_row rfl _ _ gz 29 _ (0, 0) _ rfl (HG.out.at 0 rfl) Try.underlying29 rfl infoRu
set_option maxHeartbeats 4000000 in
theorem last_any (p : Ph) (r : Ru) (c : Cu) (k : Int) (w : World) : Calls Try.prog 71 #[.agg (tuC p r c).toArray, .int .i64 k] w fun e w' => e = .returned (.agg (Ru.cells (lst r k)).toArray) ∧ Below w.heap.size w w' := by
  obtain ⟨n, hn⟩ : ∃ n, Cnt.more r.tm = n := ⟨_, rfl⟩
  have eV : lst r k = ⟨k, n, 0, 0, 0, 0, 0, false, false, r.tl, r.tu, r.td⟩ := by unfold lst; rw [hn]
  rw [eV]
  have OM : Hid (∀ W, Calls Try.prog 55 #[.int .i64 r.tm] W fun e w' => e = .returned (.int .i64 n) ∧ Below W.heap.size W w') := Lib.hid (fun W => by rw [← hn]; exact oneMoreB _ W)
  clear hn eV
  have hn0 := Blk.Bks.nil w
  have hn1 := hn0.alloc (tuC p r c).toArray 57
  have hn2 := hn1.alloc #[I 0, I 0, I 0, I 0, I 0, I 0, I 0, .bool false, .bool false, I 0, I 0, I 0] 29
  rw [show (w.alloc (.cells (tuC p r c).toArray 57)).heap.size = w.heap.size + 1 by simp] at hn2
  clear hn0
  clear hn1
  go_enter Try.func71, Try.ntmps71
  go_upto_region 1 with fail
  generalize World.alloc (World.alloc w _) _ = v at hn2 ⊢
  generalize hg1 : w.heap.size + 1 = gz at hn2 ⊢
  generalize hg0 : w.heap.size = gt at hn2 ⊢
  clear hg0 hg1
  have H0 := Lib.hid hn2
  clear hn2
  have q1 : ∀ q : QB.By v.heap.size v, q.world.cell? ⟨gt, 14, none⟩ = some (I r.tm) := fun q => (H0.out.by q).cell 1 14 rfl rfl
  refine QT.region v.heap.size 8 (by kernel_rfl) (by kernel_rfl) ?_
  simp only [List.take_succ_cons, List.take_zero]
  repeat first
    | (refine wpQuiet_load rfl 27 _ rfl ⟨gt, 22, none⟩ rfl [I r.tl, I r.tu, I r.td] _ (fun w' ⟨pw, e⟩ => by rw [e]; exact seg (H0.out.by pw) 1 22 rfl _ rfl) Try.underlying27 rfl infoTn ?_
       dsimp only [Act.put]
       simp only [List.setIfInBounds_toArray, List.set_cons_zero, List.set_cons_succ])
    | (quiet_step (first | (go_at_call 55; with_reducible exact QB.call_of (Nat.le_refl _) (fun b => OM.out _))))
  refine wpQuiet_nil ?_
  intro _ hw'
  obtain ⟨pq, rfl⟩ := hw'
  have HP := Lib.hid (H0.out.by pq)
  generalize pq.world = vp at HP ⊢
  simp only [List.drop_succ_cons, List.drop_zero]
  clear q1
  go_wp2_with (first | (refine wpList_build rfl 29 [(0, .tmp 5), (1, .tmp 9), (8, .tmp 12)] rfl (Ru.cells ⟨k, n, 0, 0, 0, 0, 0, false, false, r.tl, r.tu, r.td⟩).toArray _ (by rfl) (built3 k n r.tl r.tu r.td) ?_) | (refine wpList_store_row rfl 29 _ _ rfl gz (Ru.cells ⟨k, n, 0, 0, 0, 0, 0, false, false, r.tl, r.tu, r.td⟩).toArray rfl rfl 29 _ (HP.out.at 0 rfl) infoRu rfl (one_ru _) ?_))
  have hput := HP.out.put 0 rfl (Ru.cells ⟨k, n, 0, 0, 0, 0, 0, false, false, r.tl, r.tu, r.td⟩).toArray
  simp only [List.set_cons_succ, List.set_cons_zero] at hput
  generalize World.setRow vp gz _ = v2 at hput ⊢
  have HG := Lib.hid hput
  clear hput
  go_wp2_with fail
  (try simp only [Exit.inBlock, Exit.then])
  refine bodyPost_ret (v := .agg (Ru.cells ⟨k, n, 0, 0, 0, 0, 0, false, false, r.tl, r.tu, r.td⟩).toArray) ?_ rfl ⟨rfl, HG.out.bel⟩
  exact results_cell_row rfl _ _ gz 29 _ (0, 0) _ rfl (HG.out.at 0 rfl) Try.underlying29 rfl infoRu
set_option maxHeartbeats 4000000 in
theorem full_any (p : Ph) (r : Ru) (c : Cu) (n : Ru) (w : World) : Calls Try.prog 54 #[.agg (tuC p r c).toArray, .agg (Ru.cells n).toArray] w fun e w' => e = .returned (.bool (fuB p n)) ∧ Below w.heap.size w w' := by
  obtain ⟨l, hl⟩ : ∃ l, lm p n.tl = l := ⟨_, rfl⟩
  have HE : Hid (fuB p n = decide (l ≤ n.pr)) := Lib.hid (by unfold fuB; rw [hl])
  have LM : Hid (∀ W, Calls Try.prog 74 #[.agg p.cells.toArray, .agg #[I n.tl, I n.tu, I n.td]] W fun e w' => e = .returned (.int .i64 l) ∧ Below W.heap.size W w') := Lib.hid (fun W => by rw [← hl]; exact Gap.lim_any p _ _ _ W)
  clear hl
  have hn0 := Blk.Bks.nil w
  have hn1 := hn0.alloc (tuC p r c).toArray 57
  have hn2 := hn1.alloc (Ru.cells n).toArray 29
  rw [show (w.alloc (.cells (tuC p r c).toArray 57)).heap.size = w.heap.size + 1 by simp] at hn2
  clear hn0
  clear hn1
  go_enter Try.func54, Try.ntmps54
  go_upto_region 1 with fail
  generalize World.alloc (World.alloc w _) _ = v at hn2 ⊢
  generalize hg1 : w.heap.size + 1 = gn at hn2 ⊢
  generalize hg0 : w.heap.size = gt at hn2 ⊢
  clear hg0 hg1
  have H0 := Lib.hid hn2
  clear hn2
  have q1 : ∀ q : QB.By v.heap.size v, q.world.cell? ⟨gn, 5, none⟩ = some (I n.pr) := fun q => (H0.out.by q).cell 0 5 rfl rfl
  refine QB.region_below v.heap.size (by kernel_rfl) (by kernel_rfl) ?_
  repeat first
    | (refine wpQuiet_load rfl 23 _ rfl ⟨gt, 0, none⟩ rfl p.cells _ (fun w' ⟨pw, e⟩ => by rw [e]; exact seg (H0.out.by pw) 1 0 rfl _ rfl) Try.underlying23 rfl infoP ?_
       dsimp only [Act.put]
       simp only [List.setIfInBounds_toArray, List.set_cons_zero, List.set_cons_succ])
    | (refine wpQuiet_load rfl 27 _ rfl ⟨gn, 9, none⟩ rfl [I n.tl, I n.tu, I n.td] _ (fun w' ⟨pw, e⟩ => by rw [e]; exact seg (H0.out.by pw) 0 9 rfl _ rfl) Try.underlying27 rfl infoTn ?_
       dsimp only [Act.put]
       simp only [List.setIfInBounds_toArray, List.set_cons_zero, List.set_cons_succ])
    | ((quiet_step (first | (go_at_call 74; with_reducible exact QB.call_of (Nat.le_refl _) (fun b => LM.out _)))))
  refine wpQuiet_nil ?_
  intro _ hw'
  obtain ⟨pq, rfl⟩ := hw'
  have HP := Lib.hid (H0.out.by pq)
  go_wp2
  go_ret
  exact ⟨ret_bool HE.out.symm, HP.out.bel⟩
set_option maxHeartbeats 4000000 in
theorem foot_any (p : Ph) (r : Ru) (c : Cu) (w : World) : Calls Try.prog 56 #[.agg (tuC p r c).toArray] w fun e w' => e = .returned (.agg #[I (fooA p r c).st, I (fooA p r c).tm]) ∧ Below w.heap.size w w' := by
  obtain ⟨⟨a, b⟩, hf⟩ : ∃ x, fooA p r c = x := ⟨_, rfl⟩
  rw [hf]
  unfold fooA at hf
  obtain ⟨pu, hpu⟩ : ∃ x, c.pu = x := ⟨_, rfl⟩
  obtain ⟨ps, hps⟩ : ∃ x, c.ps = x := ⟨_, rfl⟩
  obtain ⟨kt, hkt⟩ : ∃ x, c.kt = x := ⟨_, rfl⟩
  obtain ⟨fs, hfs⟩ : ∃ x, r.fs = x := ⟨_, rfl⟩
  rw [hpu, hps, hkt, hfs] at hf
  cases kt
  · rw [if_neg (by simp)] at hf
    cases pu
    · replace hf : ft p.walk p.blinks fs r.ft false = ⟨a, b⟩ := hf
      have CU : Hid (∀ W, Calls Try.prog 72 #[.agg p.cells.toArray, .agg #[I fs, I r.ft], .bool false] W fun e w' => e = .returned (.agg #[I a, I b]) ∧ Below W.heap.size W w') := Lib.hid (fun W => Ped.step_is hf W)
      clear hf
      have hn0 := Blk.Bks.nil w
      have hn1 := hn0.alloc (tuC p r c).toArray 57
      have hn2 := hn1.alloc #[I 0, I 0] 25
      rw [show (w.alloc (.cells (tuC p r c).toArray 57)).heap.size = w.heap.size + 1 by simp] at hn2
      clear hn0
      clear hn1
      go_enter Try.func56, Try.ntmps56
      go_upto_region 1 with fail
      generalize World.alloc (World.alloc w _) _ = v at hn2 ⊢
      generalize hg1 : w.heap.size + 1 = gz at hn2 ⊢
      generalize hg0 : w.heap.size = gt at hn2 ⊢
      clear hg0 hg1
      have H0 := Lib.hid hn2
      clear hn2
      have t_rfs : v.cell? ⟨gt, 15, none⟩ = some (I r.fs) := H0.out.cell 1 15 rfl rfl
      have t_cpu : v.cell? ⟨gt, 28, none⟩ = some (.bool c.pu) := H0.out.cell 1 28 rfl rfl
      have t_cps : v.cell? ⟨gt, 29, none⟩ = some (.bool c.ps) := H0.out.cell 1 29 rfl rfl
      have t_ckt : v.cell? ⟨gt, 32, none⟩ = some (.bool c.kt) := H0.out.cell 1 32 rfl rfl
      rw [hfs] at t_rfs
      rw [hpu] at t_cpu
      rw [hps] at t_cps
      rw [hkt] at t_ckt
      go_wp2_with (first | (refine Row.wpList_load_g 23 _ rfl (by first | rfl | (go_simp; done) | fail) ⟨gt, 0, none⟩ rfl p.cells _ (seg H0.out 1 0 rfl _ rfl) Try.underlying23 rfl infoP ?_) | (refine Row.wpList_load_g 25 _ rfl (by first | rfl | (go_simp; done) | fail) ⟨gt, 15, none⟩ rfl [I fs, I r.ft] _ (seg H0.out 1 15 rfl _ (by first | rfl | (rw [← hfs]; rfl))) Try.underlying25 rfl infoFt ?_))
      refine (CU.out _).mono ?_
      rintro e vc ⟨rfl, bc⟩
      have HD := Lib.hid (H0.out.step bc)
      clear bc
      go_wp2_with (refine wpList_store_row rfl 25 _ _ rfl gz #[I a, I b] rfl rfl 25 _ (HD.out.at 0 rfl) infoFt rfl (by simp [Value.oneCell']) ?_)
      have hput := HD.out.put 0 rfl #[I a, I b]
      simp only [List.set_cons_succ, List.set_cons_zero] at hput
      generalize World.setRow vc gz _ = vz at hput ⊢
      have HG := Lib.hid hput
      clear hput
      go_wp2_with fail
      (try simp only [Exit.inBlock, Exit.then])
      refine bodyPost_ret (v := .agg #[I a, I b]) ?_ rfl ⟨rfl, HG.out.bel⟩
      exact results_cell_row rfl _ _ gz 25 _ (0, 0) _ rfl (HG.out.at 0 rfl) Try.underlying25 rfl infoFt
    · cases ps
      · replace hf : ft p.walk p.blinks fs r.ft true = ⟨a, b⟩ := hf
        have CU : Hid (∀ W, Calls Try.prog 72 #[.agg p.cells.toArray, .agg #[I fs, I r.ft], .bool true] W fun e w' => e = .returned (.agg #[I a, I b]) ∧ Below W.heap.size W w') := Lib.hid (fun W => Ped.step_is hf W)
        clear hf
        have hn0 := Blk.Bks.nil w
        have hn1 := hn0.alloc (tuC p r c).toArray 57
        have hn2 := hn1.alloc #[I 0, I 0] 25
        rw [show (w.alloc (.cells (tuC p r c).toArray 57)).heap.size = w.heap.size + 1 by simp] at hn2
        clear hn0
        clear hn1
        go_enter Try.func56, Try.ntmps56
        go_upto_region 1 with fail
        generalize World.alloc (World.alloc w _) _ = v at hn2 ⊢
        generalize hg1 : w.heap.size + 1 = gz at hn2 ⊢
        generalize hg0 : w.heap.size = gt at hn2 ⊢
        clear hg0 hg1
        have H0 := Lib.hid hn2
        clear hn2
        have t_rfs : v.cell? ⟨gt, 15, none⟩ = some (I r.fs) := H0.out.cell 1 15 rfl rfl
        have t_cpu : v.cell? ⟨gt, 28, none⟩ = some (.bool c.pu) := H0.out.cell 1 28 rfl rfl
        have t_cps : v.cell? ⟨gt, 29, none⟩ = some (.bool c.ps) := H0.out.cell 1 29 rfl rfl
        have t_ckt : v.cell? ⟨gt, 32, none⟩ = some (.bool c.kt) := H0.out.cell 1 32 rfl rfl
        rw [hfs] at t_rfs
        rw [hpu] at t_cpu
        rw [hps] at t_cps
        rw [hkt] at t_ckt
        go_wp2_with (first | (refine Row.wpList_load_g 23 _ rfl (by first | rfl | (go_simp; done) | fail) ⟨gt, 0, none⟩ rfl p.cells _ (seg H0.out 1 0 rfl _ rfl) Try.underlying23 rfl infoP ?_) | (refine Row.wpList_load_g 25 _ rfl (by first | rfl | (go_simp; done) | fail) ⟨gt, 15, none⟩ rfl [I fs, I r.ft] _ (seg H0.out 1 15 rfl _ (by first | rfl | (rw [← hfs]; rfl))) Try.underlying25 rfl infoFt ?_))
        refine (CU.out _).mono ?_
        rintro e vc ⟨rfl, bc⟩
        have HD := Lib.hid (H0.out.step bc)
        clear bc
        go_wp2_with (refine wpList_store_row rfl 25 _ _ rfl gz #[I a, I b] rfl rfl 25 _ (HD.out.at 0 rfl) infoFt rfl (by simp [Value.oneCell']) ?_)
        have hput := HD.out.put 0 rfl #[I a, I b]
        simp only [List.set_cons_succ, List.set_cons_zero] at hput
        generalize World.setRow vc gz _ = vz at hput ⊢
        have HG := Lib.hid hput
        clear hput
        go_wp2_with fail
        (try simp only [Exit.inBlock, Exit.then])
        refine bodyPost_ret (v := .agg #[I a, I b]) ?_ rfl ⟨rfl, HG.out.bel⟩
        exact results_cell_row rfl _ _ gz 25 _ (0, 0) _ rfl (HG.out.at 0 rfl) Try.underlying25 rfl infoFt
      · replace hf : ft p.walk p.blinks fs r.ft false = ⟨a, b⟩ := hf
        have CU : Hid (∀ W, Calls Try.prog 72 #[.agg p.cells.toArray, .agg #[I fs, I r.ft], .bool false] W fun e w' => e = .returned (.agg #[I a, I b]) ∧ Below W.heap.size W w') := Lib.hid (fun W => Ped.step_is hf W)
        clear hf
        have hn0 := Blk.Bks.nil w
        have hn1 := hn0.alloc (tuC p r c).toArray 57
        have hn2 := hn1.alloc #[I 0, I 0] 25
        rw [show (w.alloc (.cells (tuC p r c).toArray 57)).heap.size = w.heap.size + 1 by simp] at hn2
        clear hn0
        clear hn1
        go_enter Try.func56, Try.ntmps56
        go_upto_region 1 with fail
        generalize World.alloc (World.alloc w _) _ = v at hn2 ⊢
        generalize hg1 : w.heap.size + 1 = gz at hn2 ⊢
        generalize hg0 : w.heap.size = gt at hn2 ⊢
        clear hg0 hg1
        have H0 := Lib.hid hn2
        clear hn2
        have t_rfs : v.cell? ⟨gt, 15, none⟩ = some (I r.fs) := H0.out.cell 1 15 rfl rfl
        have t_cpu : v.cell? ⟨gt, 28, none⟩ = some (.bool c.pu) := H0.out.cell 1 28 rfl rfl
        have t_cps : v.cell? ⟨gt, 29, none⟩ = some (.bool c.ps) := H0.out.cell 1 29 rfl rfl
        have t_ckt : v.cell? ⟨gt, 32, none⟩ = some (.bool c.kt) := H0.out.cell 1 32 rfl rfl
        rw [hfs] at t_rfs
        rw [hpu] at t_cpu
        rw [hps] at t_cps
        rw [hkt] at t_ckt
        go_wp2_with (first | (refine Row.wpList_load_g 23 _ rfl (by first | rfl | (go_simp; done) | fail) ⟨gt, 0, none⟩ rfl p.cells _ (seg H0.out 1 0 rfl _ rfl) Try.underlying23 rfl infoP ?_) | (refine Row.wpList_load_g 25 _ rfl (by first | rfl | (go_simp; done) | fail) ⟨gt, 15, none⟩ rfl [I fs, I r.ft] _ (seg H0.out 1 15 rfl _ (by first | rfl | (rw [← hfs]; rfl))) Try.underlying25 rfl infoFt ?_))
        refine (CU.out _).mono ?_
        rintro e vc ⟨rfl, bc⟩
        have HD := Lib.hid (H0.out.step bc)
        clear bc
        go_wp2_with (refine wpList_store_row rfl 25 _ _ rfl gz #[I a, I b] rfl rfl 25 _ (HD.out.at 0 rfl) infoFt rfl (by simp [Value.oneCell']) ?_)
        have hput := HD.out.put 0 rfl #[I a, I b]
        simp only [List.set_cons_succ, List.set_cons_zero] at hput
        generalize World.setRow vc gz _ = vz at hput ⊢
        have HG := Lib.hid hput
        clear hput
        go_wp2_with fail
        (try simp only [Exit.inBlock, Exit.then])
        refine bodyPost_ret (v := .agg #[I a, I b]) ?_ rfl ⟨rfl, HG.out.bel⟩
        exact results_cell_row rfl _ _ gz 25 _ (0, 0) _ rfl (HG.out.at 0 rfl) Try.underlying25 rfl infoFt
  by_cases h1 : fs = 1
  · subst h1
    rw [if_pos ⟨rfl, rfl⟩] at hf
    have CU : Hid (∀ W, Calls Try.prog 75 #[.agg #[I 1, I r.ft]] W fun e w' => e = .returned (.agg #[I a, I b]) ∧ Below W.heap.size W w') := Lib.hid (fun W => Ped.cut_is hf W)
    clear hf
    have hn0 := Blk.Bks.nil w
    have hn1 := hn0.alloc (tuC p r c).toArray 57
    have hn2 := hn1.alloc #[I 0, I 0] 25
    rw [show (w.alloc (.cells (tuC p r c).toArray 57)).heap.size = w.heap.size + 1 by simp] at hn2
    clear hn0
    clear hn1
    go_enter Try.func56, Try.ntmps56
    go_upto_region 1 with fail
    generalize World.alloc (World.alloc w _) _ = v at hn2 ⊢
    generalize hg1 : w.heap.size + 1 = gz at hn2 ⊢
    generalize hg0 : w.heap.size = gt at hn2 ⊢
    clear hg0 hg1
    have H0 := Lib.hid hn2
    clear hn2
    have t_rfs : v.cell? ⟨gt, 15, none⟩ = some (I r.fs) := H0.out.cell 1 15 rfl rfl
    have t_cpu : v.cell? ⟨gt, 28, none⟩ = some (.bool c.pu) := H0.out.cell 1 28 rfl rfl
    have t_cps : v.cell? ⟨gt, 29, none⟩ = some (.bool c.ps) := H0.out.cell 1 29 rfl rfl
    have t_ckt : v.cell? ⟨gt, 32, none⟩ = some (.bool c.kt) := H0.out.cell 1 32 rfl rfl
    rw [hfs] at t_rfs
    rw [hpu] at t_cpu
    rw [hps] at t_cps
    rw [hkt] at t_ckt
    go_wp2_with (first | (refine Row.wpList_load_g 25 _ rfl (by first | rfl | (go_simp; done) | fail) ⟨gt, 15, none⟩ rfl [I 1, I r.ft] _ (seg H0.out 1 15 rfl _ (by first | rfl | (rw [← hfs]; rfl))) Try.underlying25 rfl infoFt ?_))
    refine (CU.out _).mono ?_
    rintro e vc ⟨rfl, bc⟩
    have HD := Lib.hid (H0.out.step bc)
    clear bc
    go_wp2_with (refine wpList_store_row rfl 25 _ _ rfl gz #[I a, I b] rfl rfl 25 _ (HD.out.at 0 rfl) infoFt rfl (by simp [Value.oneCell']) ?_)
    have hput := HD.out.put 0 rfl #[I a, I b]
    simp only [List.set_cons_succ, List.set_cons_zero] at hput
    generalize World.setRow vc gz _ = vz at hput ⊢
    have HG := Lib.hid hput
    clear hput
    go_wp2_with fail
    (try simp only [Exit.inBlock, Exit.then])
    refine bodyPost_ret (v := .agg #[I a, I b]) ?_ rfl ⟨rfl, HG.out.bel⟩
    exact results_cell_row rfl _ _ gz 25 _ (0, 0) _ rfl (HG.out.at 0 rfl) Try.underlying25 rfl infoFt
  · rw [if_neg (fun h => h1 h.2)] at hf
    cases pu
    · replace hf : ft p.walk p.blinks fs r.ft false = ⟨a, b⟩ := hf
      have CU : Hid (∀ W, Calls Try.prog 72 #[.agg p.cells.toArray, .agg #[I fs, I r.ft], .bool false] W fun e w' => e = .returned (.agg #[I a, I b]) ∧ Below W.heap.size W w') := Lib.hid (fun W => Ped.step_is hf W)
      clear hf
      have hn0 := Blk.Bks.nil w
      have hn1 := hn0.alloc (tuC p r c).toArray 57
      have hn2 := hn1.alloc #[I 0, I 0] 25
      rw [show (w.alloc (.cells (tuC p r c).toArray 57)).heap.size = w.heap.size + 1 by simp] at hn2
      clear hn0
      clear hn1
      go_enter Try.func56, Try.ntmps56
      go_upto_region 1 with fail
      generalize World.alloc (World.alloc w _) _ = v at hn2 ⊢
      generalize hg1 : w.heap.size + 1 = gz at hn2 ⊢
      generalize hg0 : w.heap.size = gt at hn2 ⊢
      clear hg0 hg1
      have H0 := Lib.hid hn2
      clear hn2
      have t_rfs : v.cell? ⟨gt, 15, none⟩ = some (I r.fs) := H0.out.cell 1 15 rfl rfl
      have t_cpu : v.cell? ⟨gt, 28, none⟩ = some (.bool c.pu) := H0.out.cell 1 28 rfl rfl
      have t_cps : v.cell? ⟨gt, 29, none⟩ = some (.bool c.ps) := H0.out.cell 1 29 rfl rfl
      have t_ckt : v.cell? ⟨gt, 32, none⟩ = some (.bool c.kt) := H0.out.cell 1 32 rfl rfl
      rw [hfs] at t_rfs
      rw [hpu] at t_cpu
      rw [hps] at t_cps
      rw [hkt] at t_ckt
      go_wp2_with (first | (refine Row.wpList_load_g 23 _ rfl (by first | rfl | (go_simp; done) | fail) ⟨gt, 0, none⟩ rfl p.cells _ (seg H0.out 1 0 rfl _ rfl) Try.underlying23 rfl infoP ?_) | (refine Row.wpList_load_g 25 _ rfl (by first | rfl | (go_simp; done) | fail) ⟨gt, 15, none⟩ rfl [I fs, I r.ft] _ (seg H0.out 1 15 rfl _ (by first | rfl | (rw [← hfs]; rfl))) Try.underlying25 rfl infoFt ?_))
      refine (CU.out _).mono ?_
      rintro e vc ⟨rfl, bc⟩
      have HD := Lib.hid (H0.out.step bc)
      clear bc
      go_wp2_with (refine wpList_store_row rfl 25 _ _ rfl gz #[I a, I b] rfl rfl 25 _ (HD.out.at 0 rfl) infoFt rfl (by simp [Value.oneCell']) ?_)
      have hput := HD.out.put 0 rfl #[I a, I b]
      simp only [List.set_cons_succ, List.set_cons_zero] at hput
      generalize World.setRow vc gz _ = vz at hput ⊢
      have HG := Lib.hid hput
      clear hput
      go_wp2_with fail
      (try simp only [Exit.inBlock, Exit.then])
      refine bodyPost_ret (v := .agg #[I a, I b]) ?_ rfl ⟨rfl, HG.out.bel⟩
      exact results_cell_row rfl _ _ gz 25 _ (0, 0) _ rfl (HG.out.at 0 rfl) Try.underlying25 rfl infoFt
    · cases ps
      · replace hf : ft p.walk p.blinks fs r.ft true = ⟨a, b⟩ := hf
        have CU : Hid (∀ W, Calls Try.prog 72 #[.agg p.cells.toArray, .agg #[I fs, I r.ft], .bool true] W fun e w' => e = .returned (.agg #[I a, I b]) ∧ Below W.heap.size W w') := Lib.hid (fun W => Ped.step_is hf W)
        clear hf
        have hn0 := Blk.Bks.nil w
        have hn1 := hn0.alloc (tuC p r c).toArray 57
        have hn2 := hn1.alloc #[I 0, I 0] 25
        rw [show (w.alloc (.cells (tuC p r c).toArray 57)).heap.size = w.heap.size + 1 by simp] at hn2
        clear hn0
        clear hn1
        go_enter Try.func56, Try.ntmps56
        go_upto_region 1 with fail
        generalize World.alloc (World.alloc w _) _ = v at hn2 ⊢
        generalize hg1 : w.heap.size + 1 = gz at hn2 ⊢
        generalize hg0 : w.heap.size = gt at hn2 ⊢
        clear hg0 hg1
        have H0 := Lib.hid hn2
        clear hn2
        have t_rfs : v.cell? ⟨gt, 15, none⟩ = some (I r.fs) := H0.out.cell 1 15 rfl rfl
        have t_cpu : v.cell? ⟨gt, 28, none⟩ = some (.bool c.pu) := H0.out.cell 1 28 rfl rfl
        have t_cps : v.cell? ⟨gt, 29, none⟩ = some (.bool c.ps) := H0.out.cell 1 29 rfl rfl
        have t_ckt : v.cell? ⟨gt, 32, none⟩ = some (.bool c.kt) := H0.out.cell 1 32 rfl rfl
        rw [hfs] at t_rfs
        rw [hpu] at t_cpu
        rw [hps] at t_cps
        rw [hkt] at t_ckt
        go_wp2_with (first | (refine Row.wpList_load_g 23 _ rfl (by first | rfl | (go_simp; done) | fail) ⟨gt, 0, none⟩ rfl p.cells _ (seg H0.out 1 0 rfl _ rfl) Try.underlying23 rfl infoP ?_) | (refine Row.wpList_load_g 25 _ rfl (by first | rfl | (go_simp; done) | fail) ⟨gt, 15, none⟩ rfl [I fs, I r.ft] _ (seg H0.out 1 15 rfl _ (by first | rfl | (rw [← hfs]; rfl))) Try.underlying25 rfl infoFt ?_))
        refine (CU.out _).mono ?_
        rintro e vc ⟨rfl, bc⟩
        have HD := Lib.hid (H0.out.step bc)
        clear bc
        go_wp2_with (refine wpList_store_row rfl 25 _ _ rfl gz #[I a, I b] rfl rfl 25 _ (HD.out.at 0 rfl) infoFt rfl (by simp [Value.oneCell']) ?_)
        have hput := HD.out.put 0 rfl #[I a, I b]
        simp only [List.set_cons_succ, List.set_cons_zero] at hput
        generalize World.setRow vc gz _ = vz at hput ⊢
        have HG := Lib.hid hput
        clear hput
        go_wp2_with fail
        (try simp only [Exit.inBlock, Exit.then])
        refine bodyPost_ret (v := .agg #[I a, I b]) ?_ rfl ⟨rfl, HG.out.bel⟩
        exact results_cell_row rfl _ _ gz 25 _ (0, 0) _ rfl (HG.out.at 0 rfl) Try.underlying25 rfl infoFt
      · replace hf : ft p.walk p.blinks fs r.ft false = ⟨a, b⟩ := hf
        have CU : Hid (∀ W, Calls Try.prog 72 #[.agg p.cells.toArray, .agg #[I fs, I r.ft], .bool false] W fun e w' => e = .returned (.agg #[I a, I b]) ∧ Below W.heap.size W w') := Lib.hid (fun W => Ped.step_is hf W)
        clear hf
        have hn0 := Blk.Bks.nil w
        have hn1 := hn0.alloc (tuC p r c).toArray 57
        have hn2 := hn1.alloc #[I 0, I 0] 25
        rw [show (w.alloc (.cells (tuC p r c).toArray 57)).heap.size = w.heap.size + 1 by simp] at hn2
        clear hn0
        clear hn1
        go_enter Try.func56, Try.ntmps56
        go_upto_region 1 with fail
        generalize World.alloc (World.alloc w _) _ = v at hn2 ⊢
        generalize hg1 : w.heap.size + 1 = gz at hn2 ⊢
        generalize hg0 : w.heap.size = gt at hn2 ⊢
        clear hg0 hg1
        have H0 := Lib.hid hn2
        clear hn2
        have t_rfs : v.cell? ⟨gt, 15, none⟩ = some (I r.fs) := H0.out.cell 1 15 rfl rfl
        have t_cpu : v.cell? ⟨gt, 28, none⟩ = some (.bool c.pu) := H0.out.cell 1 28 rfl rfl
        have t_cps : v.cell? ⟨gt, 29, none⟩ = some (.bool c.ps) := H0.out.cell 1 29 rfl rfl
        have t_ckt : v.cell? ⟨gt, 32, none⟩ = some (.bool c.kt) := H0.out.cell 1 32 rfl rfl
        rw [hfs] at t_rfs
        rw [hpu] at t_cpu
        rw [hps] at t_cps
        rw [hkt] at t_ckt
        go_wp2_with (first | (refine Row.wpList_load_g 23 _ rfl (by first | rfl | (go_simp; done) | fail) ⟨gt, 0, none⟩ rfl p.cells _ (seg H0.out 1 0 rfl _ rfl) Try.underlying23 rfl infoP ?_) | (refine Row.wpList_load_g 25 _ rfl (by first | rfl | (go_simp; done) | fail) ⟨gt, 15, none⟩ rfl [I fs, I r.ft] _ (seg H0.out 1 15 rfl _ (by first | rfl | (rw [← hfs]; rfl))) Try.underlying25 rfl infoFt ?_))
        refine (CU.out _).mono ?_
        rintro e vc ⟨rfl, bc⟩
        have HD := Lib.hid (H0.out.step bc)
        clear bc
        go_wp2_with (refine wpList_store_row rfl 25 _ _ rfl gz #[I a, I b] rfl rfl 25 _ (HD.out.at 0 rfl) infoFt rfl (by simp [Value.oneCell']) ?_)
        have hput := HD.out.put 0 rfl #[I a, I b]
        simp only [List.set_cons_succ, List.set_cons_zero] at hput
        generalize World.setRow vc gz _ = vz at hput ⊢
        have HG := Lib.hid hput
        clear hput
        go_wp2_with fail
        (try simp only [Exit.inBlock, Exit.then])
        refine bodyPost_ret (v := .agg #[I a, I b]) ?_ rfl ⟨rfl, HG.out.bel⟩
        exact results_cell_row rfl _ _ gz 25 _ (0, 0) _ rfl (HG.out.at 0 rfl) Try.underlying25 rfl infoFt
end Go.Proofs.Ytbpfknkbiaplpaa.Ru
