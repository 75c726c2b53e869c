/- Package phase: contracts of Step, Held, Begin. -/
import Derived.Test.YtbpfknkbiaplpaaRu
import Derived.Test.YtbpfknkbiaplpaaPhd
namespace Go.Proofs.Ytbpfknkbiaplpaa.Ru
open Go Go.ChangeShapes Go.WideShapes Go.ChangeAt Go.RowKit
open Tab Flat TabArg QL
open May (infoP)
open Ped (ft cu idl Ft infoFt)
open Gap (lm lf gr Tn infoTn)
set_option linter.unusedVariables false
set_option linter.unusedSimpArgs false
set_option maxRecDepth 100000
set_option maxHeartbeats 4000000 in
theorem step_end (p : Ph) (r : Ru) (c : Cu) (hco : r.co = 1) (hen : c.en = true) (w : World) : Calls Try.prog 23 #[.agg (tuC p r c).toArray] w fun e w' => e = .returned (.func (.func 44) #[.agg (tuC p r c).toArray] #[]) ∧ Below w.heap.size w w' := by
  have hmf : ∀ (fn : Fn) (first cap : Array Value) (W : World), (Instr.makeFunc fn first cap).run Try.prog W = .ok (.func fn first cap) W := fun _ _ _ _ => rfl
  have hn0 := Blk.Bks.nil w
  have hn1 := hn0.alloc (tuC p r c).toArray 57
  clear hn0
  go_enter Try.func23, Try.ntmps23
  go_upto_region 1 with fail
  generalize World.alloc w _ = v at hn1 ⊢
  generalize hg0 : w.heap.size = gt at hn1 ⊢
  clear hg0
  have H0 := Lib.hid hn1
  clear hn1
  have t_rco : v.cell? ⟨gt, 13, none⟩ = some (I r.co) := H0.out.cell 0 13 rfl rfl
  have t_cen : v.cell? ⟨gt, 26, none⟩ = some (.bool c.en) := H0.out.cell 0 26 rfl rfl
  rw [hco] at t_rco
  rw [hen] at t_cen
  go_wp2_with (refine Row.wpList_load_g 57 _ rfl (by first | rfl | (go_simp; done) | fail) ⟨gt, 0, none⟩ rfl (tuC p r c) _ (seg H0.out 0 0 rfl _ rfl) Try.underlying57 rfl infoTu ?_)
  go_ret
  exact ⟨rfl, H0.out.bel⟩
set_option maxHeartbeats 4000000 in
theorem Step_end (p : Ph) (r : Ru) (c : Cu) (hco : r.co = 1) (hen : c.en = true) (w : World) : Calls Try.prog 11 #[.agg p.cells.toArray, .agg r.cells.toArray, .agg c.cells.toArray] w fun e w' => e = .returned (.agg (Ru.cells (stp p r c)).toArray) ∧ Below w.heap.size w w' := by
  have HE : Hid (stp p r c = fin p r) := Lib.hid (by unfold stp; rw [hco, if_pos rfl, hen, if_pos rfl])
  rw [HE.out]
  have SG : Hid (∀ W, Calls Try.prog 23 #[.agg (tuC p r c).toArray] W fun e w' => e = .returned (.func (.func 44) #[.agg (tuC p r c).toArray] #[]) ∧ Below W.heap.size W w') := Lib.hid (fun W => step_end p r c hco hen W)
  have WY : Hid (∀ W, Calls Try.prog 44 #[.agg (tuC p r c).toArray] W fun e w' => e = .returned (.agg (Ru.cells (fin p r)).toArray) ∧ Below W.heap.size W w') := Lib.hid (fun W => end_any p r c W)
  obtain ⟨D, hD⟩ : ∃ D, fin p r = D := ⟨_, rfl⟩
  rw [hD] at WY ⊢
  clear hD HE
  have hn0 := Blk.Bks.nil w
  have hn1 := hn0.alloc p.cells.toArray 23
  have hn2 := hn1.alloc (Ru.cells r).toArray 29
  rw [show (w.alloc (.cells p.cells.toArray 23)).heap.size = w.heap.size + 1 by simp] at hn2
  have hn3 := hn2.alloc c.cells.toArray 31
  rw [show ((w.alloc (.cells p.cells.toArray 23)).alloc (.cells (Ru.cells r).toArray 29)).heap.size = w.heap.size + 1 + 1 by simp] at hn3
  have hn4 := hn3.alloc #[I 0, I 0, I 0, I 0, I 0, I 0, I 0, .bool false, .bool false, I 0, I 0, I 0] 29
  rw [show (((w.alloc (.cells p.cells.toArray 23)).alloc (.cells (Ru.cells r).toArray 29)).alloc (.cells c.cells.toArray 31)).heap.size = w.heap.size + 1 + 1 + 1 by simp] at hn4
  clear hn0
  clear hn1
  clear hn2
  clear hn3
  go_enter Try.func11, Try.ntmps11
  go_upto_region 1 with fail
  generalize World.alloc (World.alloc (World.alloc (World.alloc w _) _) _) _ = v at hn4 ⊢
  generalize hg3 : w.heap.size + 1 + 1 + 1 = gz at hn4 ⊢
  generalize hg2 : w.heap.size + 1 + 1 = gc at hn4 ⊢
  generalize hg1 : w.heap.size + 1 = gr at hn4 ⊢
  generalize hg0 : w.heap.size = gp at hn4 ⊢
  clear hg0 hg1 hg2 hg3
  have H0 := Lib.hid hn4
  clear hn4
  go_wp2_with (first | (refine Row.wpList_load_g 23 _ rfl (by first | rfl | (go_simp; done) | fail) ⟨gp, 0, none⟩ rfl p.cells _ (seg H0.out 3 0 rfl _ rfl) Try.underlying23 rfl infoP ?_) | (refine Row.wpList_load_g 29 _ rfl (by first | rfl | (go_simp; done) | fail) ⟨gr, 0, none⟩ rfl r.cells _ (seg H0.out 2 0 rfl _ rfl) Try.underlying29 rfl infoRu ?_) | (refine Row.wpList_load_g 31 _ rfl (by first | rfl | (go_simp; done) | fail) ⟨gc, 0, none⟩ rfl c.cells _ (seg H0.out 1 0 rfl _ rfl) Try.underlying31 rfl infoCu ?_) | (refine wpList_build rfl 57 [(0, .tmp 8), (1, .tmp 9), (2, .tmp 10)] rfl (tuC p r c).toArray _ (by rfl) (builtU p r c) ?_))
  refine (SG.out _).mono ?_
  rintro e v1 ⟨rfl, bc⟩
  have H1 := Lib.hid (H0.out.step bc)
  clear bc
  go_wp2_with fail
  refine (WY.out _).mono ?_
  rintro e v2 ⟨rfl, bc⟩
  have H2 := Lib.hid (H1.out.step bc)
  clear bc
  go_wp2_with (refine wpList_store_row rfl 29 _ _ rfl gz (Ru.cells D).toArray rfl rfl 29 _ (H2.out.at 0 rfl) infoRu rfl (one_ru _) ?_)
  have hput := H2.out.put 0 rfl (Ru.cells D).toArray
  simp only [List.set_cons_succ, List.set_cons_zero] at hput
  generalize World.setRow v2 gz _ = vz at hput ⊢
  have HG := Lib.hid hput
  clear hput
  go_wp2_with fail
  (try simp only [Exit.inBlock, Exit.then])
  refine bodyPost_ret (v := .agg (Ru.cells D).toArray) ?_ rfl ⟨rfl, HG.out.bel⟩
  exact results_cell_row rfl _ _ gz 29 _ (0, 0) _ rfl (HG.out.at 0 rfl) Try.underlying29 rfl infoRu
set_option maxHeartbeats 4000000 in
theorem step_stay (p : Ph) (r : Ru) (c : Cu) (hco : r.co = 1) (hen : c.en = false) (w : World) : Calls Try.prog 23 #[.agg (tuC p r c).toArray] w fun e w' => e = .returned (.func (.func 45) #[.agg (tuC p r c).toArray] #[]) ∧ Below w.heap.size w w' := by
  have hmf : ∀ (fn : Fn) (first cap : Array Value) (W : World), (Instr.makeFunc fn first cap).run Try.prog W = .ok (.func fn first cap) W := fun _ _ _ _ => rfl
  have hn0 := Blk.Bks.nil w
  have hn1 := hn0.alloc (tuC p r c).toArray 57
  clear hn0
  go_enter Try.func23, Try.ntmps23
  go_upto_region 1 with fail
  generalize World.alloc w _ = v at hn1 ⊢
  generalize hg0 : w.heap.size = gt at hn1 ⊢
  clear hg0
  have H0 := Lib.hid hn1
  clear hn1
  have t_rco : v.cell? ⟨gt, 13, none⟩ = some (I r.co) := H0.out.cell 0 13 rfl rfl
  have t_cen : v.cell? ⟨gt, 26, none⟩ = some (.bool c.en) := H0.out.cell 0 26 rfl rfl
  rw [hco] at t_rco
  rw [hen] at t_cen
  go_wp2_with (refine Row.wpList_load_g 57 _ rfl (by first | rfl | (go_simp; done) | fail) ⟨gt, 0, none⟩ rfl (tuC p r c) _ (seg H0.out 0 0 rfl _ rfl) Try.underlying57 rfl infoTu ?_)
  go_ret
  exact ⟨rfl, H0.out.bel⟩
set_option maxHeartbeats 4000000 in
theorem Step_stay (p : Ph) (r : Ru) (c : Cu) (hco : r.co = 1) (hen : c.en = false) (w : World) : Calls Try.prog 11 #[.agg p.cells.toArray, .agg r.cells.toArray, .agg c.cells.toArray] w fun e w' => e = .returned (.agg (Ru.cells (stp p r c)).toArray) ∧ Below w.heap.size w w' := by
  have HE : Hid (stp p r c = sty p c (lon p r c)) := Lib.hid (by unfold stp; rw [hco, if_pos rfl, hen, if_neg (by simp)])
  rw [HE.out]
  have SG : Hid (∀ W, Calls Try.prog 23 #[.agg (tuC p r c).toArray] W fun e w' => e = .returned (.func (.func 45) #[.agg (tuC p r c).toArray] #[]) ∧ Below W.heap.size W w') := Lib.hid (fun W => step_stay p r c hco hen W)
  have WY : Hid (∀ W, Calls Try.prog 45 #[.agg (tuC p r c).toArray] W fun e w' => e = .returned (.agg (Ru.cells (sty p c (lon p r c))).toArray) ∧ Below W.heap.size W w') := Lib.hid (fun W => stay_any p r c W)
  obtain ⟨D, hD⟩ : ∃ D, sty p c (lon p r c) = D := ⟨_, rfl⟩
  rw [hD] at WY ⊢
  clear hD HE
  have hn0 := Blk.Bks.nil w
  have hn1 := hn0.alloc p.cells.toArray 23
  have hn2 := hn1.alloc (Ru.cells r).toArray 29
  rw [show (w.alloc (.cells p.cells.toArray 23)).heap.size = w.heap.size + 1 by simp] at hn2
  have hn3 := hn2.alloc c.cells.toArray 31
  rw [show ((w.alloc (.cells p.cells.toArray 23)).alloc (.cells (Ru.cells r).toArray 29)).heap.size = w.heap.size + 1 + 1 by simp] at hn3
  have hn4 := hn3.alloc #[I 0, I 0, I 0, I 0, I 0, I 0, I 0, .bool false, .bool false, I 0, I 0, I 0] 29
  rw [show (((w.alloc (.cells p.cells.toArray 23)).alloc (.cells (Ru.cells r).toArray 29)).alloc (.cells c.cells.toArray 31)).heap.size = w.heap.size + 1 + 1 + 1 by simp] at hn4
  clear hn0
  clear hn1
  clear hn2
  clear hn3
  go_enter Try.func11, Try.ntmps11
  go_upto_region 1 with fail
  generalize World.alloc (World.alloc (World.alloc (World.alloc w _) _) _) _ = v at hn4 ⊢
  generalize hg3 : w.heap.size + 1 + 1 + 1 = gz at hn4 ⊢
  generalize hg2 : w.heap.size + 1 + 1 = gc at hn4 ⊢
  generalize hg1 : w.heap.size + 1 = gr at hn4 ⊢
  generalize hg0 : w.heap.size = gp at hn4 ⊢
  clear hg0 hg1 hg2 hg3
  have H0 := Lib.hid hn4
  clear hn4
  go_wp2_with (first | (refine Row.wpList_load_g 23 _ rfl (by first | rfl | (go_simp; done) | fail) ⟨gp, 0, none⟩ rfl p.cells _ (seg H0.out 3 0 rfl _ rfl) Try.underlying23 rfl infoP ?_) | (refine Row.wpList_load_g 29 _ rfl (by first | rfl | (go_simp; done) | fail) ⟨gr, 0, none⟩ rfl r.cells _ (seg H0.out 2 0 rfl _ rfl) Try.underlying29 rfl infoRu ?_) | (refine Row.wpList_load_g 31 _ rfl (by first | rfl | (go_simp; done) | fail) ⟨gc, 0, none⟩ rfl c.cells _ (seg H0.out 1 0 rfl _ rfl) Try.underlying31 rfl infoCu ?_) | (refine wpList_build rfl 57 [(0, .tmp 8), (1, .tmp 9), (2, .tmp 10)] rfl (tuC p r c).toArray _ (by rfl) (builtU p r c) ?_))
  refine (SG.out _).mono ?_
  rintro e v1 ⟨rfl, bc⟩
  have H1 := Lib.hid (H0.out.step bc)
  clear bc
  go_wp2_with fail
  refine (WY.out _).mono ?_
  rintro e v2 ⟨rfl, bc⟩
  have H2 := Lib.hid (H1.out.step bc)
  clear bc
  go_wp2_with (refine wpList_store_row rfl 29 _ _ rfl gz (Ru.cells D).toArray rfl rfl 29 _ (H2.out.at 0 rfl) infoRu rfl (one_ru _) ?_)
  have hput := H2.out.put 0 rfl (Ru.cells D).toArray
  simp only [List.set_cons_succ, List.set_cons_zero] at hput
  generalize World.setRow v2 gz _ = vz at hput ⊢
  have HG := Lib.hid hput
  clear hput
  go_wp2_with fail
  (try simp only [Exit.inBlock, Exit.then])
  refine bodyPost_ret (v := .agg (Ru.cells D).toArray) ?_ rfl ⟨rfl, HG.out.bel⟩
  exact results_cell_row rfl _ _ gz 29 _ (0, 0) _ rfl (HG.out.at 0 rfl) Try.underlying29 rfl infoRu
set_option maxHeartbeats 4000000 in
theorem step_yellow (p : Ph) (r : Ru) (c : Cu) (hco : r.co = 2) (w : World) : Calls Try.prog 23 #[.agg (tuC p r c).toArray] w fun e w' => e = .returned (.func (.func 46) #[.agg (tuC p r c).toArray] #[]) ∧ Below w.heap.size w w' := by
  have hmf : ∀ (fn : Fn) (first cap : Array Value) (W : World), (Instr.makeFunc fn first cap).run Try.prog W = .ok (.func fn first cap) W := fun _ _ _ _ => rfl
  have hn0 := Blk.Bks.nil w
  have hn1 := hn0.alloc (tuC p r c).toArray 57
  clear hn0
  go_enter Try.func23, Try.ntmps23
  go_upto_region 1 with fail
  generalize World.alloc w _ = v at hn1 ⊢
  generalize hg0 : w.heap.size = gt at hn1 ⊢
  clear hg0
  have H0 := Lib.hid hn1
  clear hn1
  have t_rco : v.cell? ⟨gt, 13, none⟩ = some (I r.co) := H0.out.cell 0 13 rfl rfl
  rw [hco] at t_rco
  go_wp2_with (refine Row.wpList_load_g 57 _ rfl (by first | rfl | (go_simp; done) | fail) ⟨gt, 0, none⟩ rfl (tuC p r c) _ (seg H0.out 0 0 rfl _ rfl) Try.underlying57 rfl infoTu ?_)
  go_ret
  exact ⟨rfl, H0.out.bel⟩
set_option maxHeartbeats 4000000 in
theorem Step_yellow (p : Ph) (r : Ru) (c : Cu) (hco : r.co = 2) (w : World) : Calls Try.prog 11 #[.agg p.cells.toArray, .agg r.cells.toArray, .agg c.cells.toArray] w fun e w' => e = .returned (.agg (Ru.cells (stp p r c)).toArray) ∧ Below w.heap.size w w' := by
  have HE : Hid (stp p r c = yel p r) := Lib.hid (by unfold stp; rw [hco, if_neg (by decide), if_pos rfl])
  rw [HE.out]
  have SG : Hid (∀ W, Calls Try.prog 23 #[.agg (tuC p r c).toArray] W fun e w' => e = .returned (.func (.func 46) #[.agg (tuC p r c).toArray] #[]) ∧ Below W.heap.size W w') := Lib.hid (fun W => step_yellow p r c hco W)
  have WY : Hid (∀ W, Calls Try.prog 46 #[.agg (tuC p r c).toArray] W fun e w' => e = .returned (.agg (Ru.cells (yel p r)).toArray) ∧ Below W.heap.size W w') := Lib.hid (fun W => yellow_any p r c W)
  obtain ⟨D, hD⟩ : ∃ D, yel p r = D := ⟨_, rfl⟩
  rw [hD] at WY ⊢
  clear hD HE
  have hn0 := Blk.Bks.nil w
  have hn1 := hn0.alloc p.cells.toArray 23
  have hn2 := hn1.alloc (Ru.cells r).toArray 29
  rw [show (w.alloc (.cells p.cells.toArray 23)).heap.size = w.heap.size + 1 by simp] at hn2
  have hn3 := hn2.alloc c.cells.toArray 31
  rw [show ((w.alloc (.cells p.cells.toArray 23)).alloc (.cells (Ru.cells r).toArray 29)).heap.size = w.heap.size + 1 + 1 by simp] at hn3
  have hn4 := hn3.alloc #[I 0, I 0, I 0, I 0, I 0, I 0, I 0, .bool false, .bool false, I 0, I 0, I 0] 29
  rw [show (((w.alloc (.cells p.cells.toArray 23)).alloc (.cells (Ru.cells r).toArray 29)).alloc (.cells c.cells.toArray 31)).heap.size = w.heap.size + 1 + 1 + 1 by simp] at hn4
  clear hn0
  clear hn1
  clear hn2
  clear hn3
  go_enter Try.func11, Try.ntmps11
  go_upto_region 1 with fail
  generalize World.alloc (World.alloc (World.alloc (World.alloc w _) _) _) _ = v at hn4 ⊢
  generalize hg3 : w.heap.size + 1 + 1 + 1 = gz at hn4 ⊢
  generalize hg2 : w.heap.size + 1 + 1 = gc at hn4 ⊢
  generalize hg1 : w.heap.size + 1 = gr at hn4 ⊢
  generalize hg0 : w.heap.size = gp at hn4 ⊢
  clear hg0 hg1 hg2 hg3
  have H0 := Lib.hid hn4
  clear hn4
  go_wp2_with (first | (refine Row.wpList_load_g 23 _ rfl (by first | rfl | (go_simp; done) | fail) ⟨gp, 0, none⟩ rfl p.cells _ (seg H0.out 3 0 rfl _ rfl) Try.underlying23 rfl infoP ?_) | (refine Row.wpList_load_g 29 _ rfl (by first | rfl | (go_simp; done) | fail) ⟨gr, 0, none⟩ rfl r.cells _ (seg H0.out 2 0 rfl _ rfl) Try.underlying29 rfl infoRu ?_) | (refine Row.wpList_load_g 31 _ rfl (by first | rfl | (go_simp; done) | fail) ⟨gc, 0, none⟩ rfl c.cells _ (seg H0.out 1 0 rfl _ rfl) Try.underlying31 rfl infoCu ?_) | (refine wpList_build rfl 57 [(0, .tmp 8), (1, .tmp 9), (2, .tmp 10)] rfl (tuC p r c).toArray _ (by rfl) (builtU p r c) ?_))
  refine (SG.out _).mono ?_
  rintro e v1 ⟨rfl, bc⟩
  have H1 := Lib.hid (H0.out.step bc)
  clear bc
  go_wp2_with fail
  refine (WY.out _).mono ?_
  rintro e v2 ⟨rfl, bc⟩
  have H2 := Lib.hid (H1.out.step bc)
  clear bc
  go_wp2_with (refine wpList_store_row rfl 29 _ _ rfl gz (Ru.cells D).toArray rfl rfl 29 _ (H2.out.at 0 rfl) infoRu rfl (one_ru _) ?_)
  have hput := H2.out.put 0 rfl (Ru.cells D).toArray
  simp only [List.set_cons_succ, List.set_cons_zero] at hput
  generalize World.setRow v2 gz _ = vz at hput ⊢
  have HG := Lib.hid hput
  clear hput
  go_wp2_with fail
  (try simp only [Exit.inBlock, Exit.then])
  refine bodyPost_ret (v := .agg (Ru.cells D).toArray) ?_ rfl ⟨rfl, HG.out.bel⟩
  exact results_cell_row rfl _ _ gz 29 _ (0, 0) _ rfl (HG.out.at 0 rfl) Try.underlying29 rfl infoRu
set_option maxHeartbeats 4000000 in
theorem step_clearance (p : Ph) (r : Ru) (c : Cu) (hco : r.co = 3) (w : World) : Calls Try.prog 23 #[.agg (tuC p r c).toArray] w fun e w' => e = .returned (.func (.func 47) #[.agg (tuC p r c).toArray] #[]) ∧ Below w.heap.size w w' := by
  have hmf : ∀ (fn : Fn) (first cap : Array Value) (W : World), (Instr.makeFunc fn first cap).run Try.prog W = .ok (.func fn first cap) W := fun _ _ _ _ => rfl
  have hn0 := Blk.Bks.nil w
  have hn1 := hn0.alloc (tuC p r c).toArray 57
  clear hn0
  go_enter Try.func23, Try.ntmps23
  go_upto_region 1 with fail
  generalize World.alloc w _ = v at hn1 ⊢
  generalize hg0 : w.heap.size = gt at hn1 ⊢
  clear hg0
  have H0 := Lib.hid hn1
  clear hn1
  have t_rco : v.cell? ⟨gt, 13, none⟩ = some (I r.co) := H0.out.cell 0 13 rfl rfl
  rw [hco] at t_rco
  go_wp2_with (refine Row.wpList_load_g 57 _ rfl (by first | rfl | (go_simp; done) | fail) ⟨gt, 0, none⟩ rfl (tuC p r c) _ (seg H0.out 0 0 rfl _ rfl) Try.underlying57 rfl infoTu ?_)
  go_ret
  exact ⟨rfl, H0.out.bel⟩
set_option maxHeartbeats 4000000 in
theorem Step_clearance (p : Ph) (r : Ru) (c : Cu) (hco : r.co = 3) (w : World) : Calls Try.prog 11 #[.agg p.cells.toArray, .agg r.cells.toArray, .agg c.cells.toArray] w fun e w' => e = .returned (.agg (Ru.cells (stp p r c)).toArray) ∧ Below w.heap.size w w' := by
  have HE : Hid (stp p r c = cle p r) := Lib.hid (by unfold stp; rw [hco, if_neg (by decide), if_neg (by decide), if_pos rfl])
  rw [HE.out]
  have SG : Hid (∀ W, Calls Try.prog 23 #[.agg (tuC p r c).toArray] W fun e w' => e = .returned (.func (.func 47) #[.agg (tuC p r c).toArray] #[]) ∧ Below W.heap.size W w') := Lib.hid (fun W => step_clearance p r c hco W)
  have WY : Hid (∀ W, Calls Try.prog 47 #[.agg (tuC p r c).toArray] W fun e w' => e = .returned (.agg (Ru.cells (cle p r)).toArray) ∧ Below W.heap.size W w') := Lib.hid (fun W => clearance_any p r c W)
  obtain ⟨D, hD⟩ : ∃ D, cle p r = D := ⟨_, rfl⟩
  rw [hD] at WY ⊢
  clear hD HE
  have hn0 := Blk.Bks.nil w
  have hn1 := hn0.alloc p.cells.toArray 23
  have hn2 := hn1.alloc (Ru.cells r).toArray 29
  rw [show (w.alloc (.cells p.cells.toArray 23)).heap.size = w.heap.size + 1 by simp] at hn2
  have hn3 := hn2.alloc c.cells.toArray 31
  rw [show ((w.alloc (.cells p.cells.toArray 23)).alloc (.cells (Ru.cells r).toArray 29)).heap.size = w.heap.size + 1 + 1 by simp] at hn3
  have hn4 := hn3.alloc #[I 0, I 0, I 0, I 0, I 0, I 0, I 0, .bool false, .bool false, I 0, I 0, I 0] 29
  rw [show (((w.alloc (.cells p.cells.toArray 23)).alloc (.cells (Ru.cells r).toArray 29)).alloc (.cells c.cells.toArray 31)).heap.size = w.heap.size + 1 + 1 + 1 by simp] at hn4
  clear hn0
  clear hn1
  clear hn2
  clear hn3
  go_enter Try.func11, Try.ntmps11
  go_upto_region 1 with fail
  generalize World.alloc (World.alloc (World.alloc (World.alloc w _) _) _) _ = v at hn4 ⊢
  generalize hg3 : w.heap.size + 1 + 1 + 1 = gz at hn4 ⊢
  generalize hg2 : w.heap.size + 1 + 1 = gc at hn4 ⊢
  generalize hg1 : w.heap.size + 1 = gr at hn4 ⊢
  generalize hg0 : w.heap.size = gp at hn4 ⊢
  clear hg0 hg1 hg2 hg3
  have H0 := Lib.hid hn4
  clear hn4
  go_wp2_with (first | (refine Row.wpList_load_g 23 _ rfl (by first | rfl | (go_simp; done) | fail) ⟨gp, 0, none⟩ rfl p.cells _ (seg H0.out 3 0 rfl _ rfl) Try.underlying23 rfl infoP ?_) | (refine Row.wpList_load_g 29 _ rfl (by first | rfl | (go_simp; done) | fail) ⟨gr, 0, none⟩ rfl r.cells _ (seg H0.out 2 0 rfl _ rfl) Try.underlying29 rfl infoRu ?_) | (refine Row.wpList_load_g 31 _ rfl (by first | rfl | (go_simp; done) | fail) ⟨gc, 0, none⟩ rfl c.cells _ (seg H0.out 1 0 rfl _ rfl) Try.underlying31 rfl infoCu ?_) | (refine wpList_build rfl 57 [(0, .tmp 8), (1, .tmp 9), (2, .tmp 10)] rfl (tuC p r c).toArray _ (by rfl) (builtU p r c) ?_))
  refine (SG.out _).mono ?_
  rintro e v1 ⟨rfl, bc⟩
  have H1 := Lib.hid (H0.out.step bc)
  clear bc
  go_wp2_with fail
  refine (WY.out _).mono ?_
  rintro e v2 ⟨rfl, bc⟩
  have H2 := Lib.hid (H1.out.step bc)
  clear bc
  go_wp2_with (refine wpList_store_row rfl 29 _ _ rfl gz (Ru.cells D).toArray rfl rfl 29 _ (H2.out.at 0 rfl) infoRu rfl (one_ru _) ?_)
  have hput := H2.out.put 0 rfl (Ru.cells D).toArray
  simp only [List.set_cons_succ, List.set_cons_zero] at hput
  generalize World.setRow v2 gz _ = vz at hput ⊢
  have HG := Lib.hid hput
  clear hput
  go_wp2_with fail
  (try simp only [Exit.inBlock, Exit.then])
  refine bodyPost_ret (v := .agg (Ru.cells D).toArray) ?_ rfl ⟨rfl, HG.out.bel⟩
  exact results_cell_row rfl _ _ gz 29 _ (0, 0) _ rfl (HG.out.at 0 rfl) Try.underlying29 rfl infoRu
set_option maxHeartbeats 4000000 in
theorem step_red (p : Ph) (r : Ru) (c : Cu) (k : Int) (hco : r.co = k) (h1 : ¬ k = 1) (h2 : ¬ k = 2) (h3 : ¬ k = 3) (w : World) : Calls Try.prog 23 #[.agg (tuC p r c).toArray] w fun e w' => e = .returned (.func (.func 48) #[.agg (tuC p r c).toArray] #[]) ∧ Below w.heap.size w w' := by
  have hmf : ∀ (fn : Fn) (first cap : Array Value) (W : World), (Instr.makeFunc fn first cap).run Try.prog W = .ok (.func fn first cap) W := fun _ _ _ _ => rfl
  have hn0 := Blk.Bks.nil w
  have hn1 := hn0.alloc (tuC p r c).toArray 57
  clear hn0
  go_enter Try.func23, Try.ntmps23
  go_upto_region 1 with fail
  generalize World.alloc w _ = v at hn1 ⊢
  generalize hg0 : w.heap.size = gt at hn1 ⊢
  clear hg0
  have H0 := Lib.hid hn1
  clear hn1
  have t_rco : v.cell? ⟨gt, 13, none⟩ = some (I r.co) := H0.out.cell 0 13 rfl rfl
  rw [hco] at t_rco
  have z1 : (k == 1) = false := by rw [beq_eq_false_iff_ne]; exact h1
  have z2 : (k == 2) = false := by rw [beq_eq_false_iff_ne]; exact h2
  have z3 : (k == 3) = false := by rw [beq_eq_false_iff_ne]; exact h3
  go_wp2_with (refine Row.wpList_load_g 57 _ rfl (by first | rfl | (go_simp; done) | fail) ⟨gt, 0, none⟩ rfl (tuC p r c) _ (seg H0.out 0 0 rfl _ rfl) Try.underlying57 rfl infoTu ?_)
  go_ret
  exact ⟨rfl, H0.out.bel⟩
set_option maxHeartbeats 4000000 in
theorem Step_red (p : Ph) (r : Ru) (c : Cu) (k : Int) (hco : r.co = k) (h1 : ¬ k = 1) (h2 : ¬ k = 2) (h3 : ¬ k = 3) (w : World) : Calls Try.prog 11 #[.agg p.cells.toArray, .agg r.cells.toArray, .agg c.cells.toArray] w fun e w' => e = .returned (.agg (Ru.cells (stp p r c)).toArray) ∧ Below w.heap.size w w' := by
  have HE : Hid (stp p r c = rdR p r c) := Lib.hid (by unfold stp; rw [hco, if_neg h1, if_neg h2, if_neg h3])
  rw [HE.out]
  have SG : Hid (∀ W, Calls Try.prog 23 #[.agg (tuC p r c).toArray] W fun e w' => e = .returned (.func (.func 48) #[.agg (tuC p r c).toArray] #[]) ∧ Below W.heap.size W w') := Lib.hid (fun W => step_red p r c k hco h1 h2 h3 W)
  have WY : Hid (∀ W, Calls Try.prog 48 #[.agg (tuC p r c).toArray] W fun e w' => e = .returned (.agg (Ru.cells (rdR p r c)).toArray) ∧ Below W.heap.size W w') := Lib.hid (fun W => red_any p r c W)
  obtain ⟨D, hD⟩ : ∃ D, rdR p r c = D := ⟨_, rfl⟩
  rw [hD] at WY ⊢
  clear hD HE
  have hn0 := Blk.Bks.nil w
  have hn1 := hn0.alloc p.cells.toArray 23
  have hn2 := hn1.alloc (Ru.cells r).toArray 29
  rw [show (w.alloc (.cells p.cells.toArray 23)).heap.size = w.heap.size + 1 by simp] at hn2
  have hn3 := hn2.alloc c.cells.toArray 31
  rw [show ((w.alloc (.cells p.cells.toArray 23)).alloc (.cells (Ru.cells r).toArray 29)).heap.size = w.heap.size + 1 + 1 by simp] at hn3
  have hn4 := hn3.alloc #[I 0, I 0, I 0, I 0, I 0, I 0, I 0, .bool false, .bool false, I 0, I 0, I 0] 29
  rw [show (((w.alloc (.cells p.cells.toArray 23)).alloc (.cells (Ru.cells r).toArray 29)).alloc (.cells c.cells.toArray 31)).heap.size = w.heap.size + 1 + 1 + 1 by simp] at hn4
  clear hn0
  clear hn1
  clear hn2
  clear hn3
  go_enter Try.func11, Try.ntmps11
  go_upto_region 1 with fail
  generalize World.alloc (World.alloc (World.alloc (World.alloc w _) _) _) _ = v at hn4 ⊢
  generalize hg3 : w.heap.size + 1 + 1 + 1 = gz at hn4 ⊢
  generalize hg2 : w.heap.size + 1 + 1 = gc at hn4 ⊢
  generalize hg1 : w.heap.size + 1 = gr at hn4 ⊢
  generalize hg0 : w.heap.size = gp at hn4 ⊢
  clear hg0 hg1 hg2 hg3
  have H0 := Lib.hid hn4
  clear hn4
  go_wp2_with (first | (refine Row.wpList_load_g 23 _ rfl (by first | rfl | (go_simp; done) | fail) ⟨gp, 0, none⟩ rfl p.cells _ (seg H0.out 3 0 rfl _ rfl) Try.underlying23 rfl infoP ?_) | (refine Row.wpList_load_g 29 _ rfl (by first | rfl | (go_simp; done) | fail) ⟨gr, 0, none⟩ rfl r.cells _ (seg H0.out 2 0 rfl _ rfl) Try.underlying29 rfl infoRu ?_) | (refine Row.wpList_load_g 31 _ rfl (by first | rfl | (go_simp; done) | fail) ⟨gc, 0, none⟩ rfl c.cells _ (seg H0.out 1 0 rfl _ rfl) Try.underlying31 rfl infoCu ?_) | (refine wpList_build rfl 57 [(0, .tmp 8), (1, .tmp 9), (2, .tmp 10)] rfl (tuC p r c).toArray _ (by rfl) (builtU p r c) ?_))
  refine (SG.out _).mono ?_
  rintro e v1 ⟨rfl, bc⟩
  have H1 := Lib.hid (H0.out.step bc)
  clear bc
  go_wp2_with fail
  refine (WY.out _).mono ?_
  rintro e v2 ⟨rfl, bc⟩
  have H2 := Lib.hid (H1.out.step bc)
  clear bc
  go_wp2_with (refine wpList_store_row rfl 29 _ _ rfl gz (Ru.cells D).toArray rfl rfl 29 _ (H2.out.at 0 rfl) infoRu rfl (one_ru _) ?_)
  have hput := H2.out.put 0 rfl (Ru.cells D).toArray
  simp only [List.set_cons_succ, List.set_cons_zero] at hput
  generalize World.setRow v2 gz _ = vz at hput ⊢
  have HG := Lib.hid hput
  clear hput
  go_wp2_with fail
  (try simp only [Exit.inBlock, Exit.then])
  refine bodyPost_ret (v := .agg (Ru.cells D).toArray) ?_ rfl ⟨rfl, HG.out.bel⟩
  exact results_cell_row rfl _ _ gz 29 _ (0, 0) _ rfl (HG.out.at 0 rfl) Try.underlying29 rfl infoRu
theorem step_any (p : Ph) (r : Ru) (c : Cu) (w : World) : Calls Try.prog 11 #[.agg p.cells.toArray, .agg r.cells.toArray, .agg c.cells.toArray] w fun e w' => e = .returned (.agg (Ru.cells (stp p r c)).toArray) ∧ Below w.heap.size w w' := by
  by_cases h1 : r.co = 1
  · cases he : c.en with
    | true => exact Step_end p r c h1 he w
    | false => exact Step_stay p r c h1 he w
  by_cases h2 : r.co = 2
  · exact Step_yellow p r c h2 w
  by_cases h3 : r.co = 3
  · exact Step_clearance p r c h3 w
  exact Step_red p r c r.co rfl h1 h2 h3 w
set_option maxHeartbeats 4000000 in
theorem begin_any (p : Ph) (w : World) : Calls Try.prog 15 #[.agg p.cells.toArray] w fun e w' => e = .returned (.agg (Ru.cells (bgn p)).toArray) ∧ Below w.heap.size w w' := by
  have BG : Hid (∀ W, Calls Try.prog 29 #[.agg p.cells.toArray] W fun e w' => e = .returned (.agg #[I p.max, I 0, I 0]) ∧ Below W.heap.size W w') := Lib.hid (fun W => Gap.begin_any p W)
  have hn0 := Blk.Bks.nil w
  have hn1 := hn0.alloc p.cells.toArray 23
  have hn2 := hn1.alloc #[I 0, I 0, I 0, I 0, I 0, I 0, I 0, .bool false, .bool false, I 0, I 0, I 0] 29
  rw [show (w.alloc (.cells p.cells.toArray 23)).heap.size = w.heap.size + 1 by simp] at hn2
  clear hn0
  clear hn1
  go_enter Try.func15, Try.ntmps15
  go_upto_region 1 with fail
  generalize World.alloc (World.alloc w _) _ = v at hn2 ⊢
  generalize hg1 : w.heap.size + 1 = gz at hn2 ⊢
  generalize hg0 : w.heap.size = gp at hn2 ⊢
  clear hg0 hg1
  have H0 := Lib.hid hn2
  clear hn2
  go_wp2_with (refine Row.wpList_load_g 23 _ rfl (by first | rfl | (go_simp; done) | fail) ⟨gp, 0, none⟩ rfl p.cells _ (seg H0.out 1 0 rfl _ rfl) Try.underlying23 rfl infoP ?_)
  refine (BG.out _).mono ?_
  rintro e v1 ⟨rfl, bc⟩
  have H1 := Lib.hid (H0.out.step bc)
  clear bc
  go_wp2_with (first | (refine wpList_build rfl 29 [(0, .const (I 0)), (1, .const (I 9999)), (8, .tmp 4)] rfl (Ru.cells (bgn p)).toArray _ (by rfl) (built3 0 9999 p.max 0 0) ?_) | (refine wpList_store_row rfl 29 _ _ rfl gz (Ru.cells (bgn p)).toArray rfl rfl 29 _ (H1.out.at 0 rfl) infoRu rfl (one_ru _) ?_))
  have hput := H1.out.put 0 rfl (Ru.cells (bgn p)).toArray
  simp only [List.set_cons_succ, List.set_cons_zero] at hput
  generalize World.setRow v1 gz _ = vz at hput ⊢
  have HG := Lib.hid hput
  clear hput
  go_wp2_with fail
  (try simp only [Exit.inBlock, Exit.then])
  refine bodyPost_ret (v := .agg (Ru.cells (bgn p)).toArray) ?_ rfl ⟨rfl, HG.out.bel⟩
  exact results_cell_row rfl _ _ gz 29 _ (0, 0) _ rfl (HG.out.at 0 rfl) Try.underlying29 rfl infoRu
set_option maxHeartbeats 8000000 in
theorem held_any (p : Ph) (r : Ru) (c : Cu) (w : World) : Calls Try.prog 13 #[.agg p.cells.toArray, .agg r.cells.toArray, .agg c.cells.toArray] w fun e w' => e = .returned (.bool (hld p r c)) ∧ Below w.heap.size w w' := by
  obtain ⟨n, hn⟩ : ∃ n, lon p r c = n := ⟨_, rfl⟩
  obtain ⟨du, hdu⟩ : ∃ x, duB p c n = x := ⟨_, rfl⟩
  obtain ⟨k, hk⟩ : ∃ x, r.co = x := ⟨_, rfl⟩
  obtain ⟨en, hen⟩ : ∃ x, c.en = x := ⟨_, rfl⟩
  obtain ⟨ho, hho⟩ : ∃ x, c.ho = x := ⟨_, rfl⟩
  have HE : Hid (hld p r c = (decide (k = 1) && (!en && (ho && du)))) := Lib.hid (by unfold hld; rw [hn, hdu, hk, hen, hho])
  have LO : Hid (∀ W, Calls Try.prog 28 #[.agg (tuC p r c).toArray] W fun e w' => e = .returned (.agg n.cells.toArray) ∧ Below W.heap.size W w') := Lib.hid (fun W => by rw [← hn]; exact longer_any p r c W)
  have DU : Hid (∀ W, Calls Try.prog 27 #[.agg (tuC p r c).toArray, .agg n.cells.toArray] W fun e w' => e = .returned (.bool du) ∧ Below W.heap.size W w') := Lib.hid (fun W => by rw [← hdu]; exact due_any p r c n W)
  clear hn hdu
  have hn0 := Blk.Bks.nil w
  have hn1 := hn0.alloc p.cells.toArray 23
  have hn2 := hn1.alloc (Ru.cells r).toArray 29
  rw [show (w.alloc (.cells p.cells.toArray 23)).heap.size = w.heap.size + 1 by simp] at hn2
  have hn3 := hn2.alloc c.cells.toArray 31
  rw [show ((w.alloc (.cells p.cells.toArray 23)).alloc (.cells (Ru.cells r).toArray 29)).heap.size = w.heap.size + 1 + 1 by simp] at hn3
  clear hn0
  clear hn1
  clear hn2
  go_enter Try.func13, Try.ntmps13
  go_upto_region 1 with fail
  generalize World.alloc (World.alloc (World.alloc w _) _) _ = v at hn3 ⊢
  generalize hg2 : w.heap.size + 1 + 1 = gc at hn3 ⊢
  generalize hg1 : w.heap.size + 1 = gr at hn3 ⊢
  generalize hg0 : w.heap.size = gp at hn3 ⊢
  clear hg0 hg1 hg2
  have H0 := Lib.hid hn3
  clear hn3
  go_upto_region 2 with (first | (refine Row.wpList_load_g 23 _ rfl (by first | rfl | (go_simp; done) | fail) ⟨gp, 0, none⟩ rfl p.cells _ (seg H0.out 2 0 rfl _ rfl) Try.underlying23 rfl infoP ?_) | (refine Row.wpList_load_g 29 _ rfl (by first | rfl | (go_simp; done) | fail) ⟨gr, 0, none⟩ rfl r.cells _ (seg H0.out 1 0 rfl _ rfl) Try.underlying29 rfl infoRu ?_) | (refine Row.wpList_load_g 31 _ rfl (by first | rfl | (go_simp; done) | fail) ⟨gc, 0, none⟩ rfl c.cells _ (seg H0.out 0 0 rfl _ rfl) Try.underlying31 rfl infoCu ?_) | (refine wpList_build rfl 57 [(0, .tmp 8), (1, .tmp 9), (2, .tmp 10)] rfl (tuC p r c).toArray _ (by rfl) (builtU p r c) ?_) | (refine Row.wpList_store_new rfl 57 _ _ rfl _ _ (tuC p r c).toArray rfl rfl rfl infoTu rfl (one_tu _ _ _) ?_))
  have hn := H0.out.alloc (tuC p r c).toArray 57
  generalize World.alloc v _ = v1 at hn ⊢
  generalize v.heap.size = gt at hn ⊢
  have H1 := Lib.hid hn
  clear hn
  clear H0
  have q0 : ∀ q : QB.By v1.heap.size v1, q.world.cell? ⟨gr, 0, none⟩ = some (I r.co) := fun q => (H1.out.by q).cell 2 0 rfl rfl
  have q1 : ∀ q : QB.By v1.heap.size v1, q.world.cell? ⟨gc, 1, none⟩ = some (.bool c.en) := fun q => (H1.out.by q).cell 1 1 rfl rfl
  have q5 : ∀ q : QB.By v1.heap.size v1, q.world.cell? ⟨gc, 5, none⟩ = some (.bool c.ho) := fun q => (H1.out.by q).cell 1 5 rfl rfl
  rw [hk] at q0
  rw [hen] at q1
  rw [hho] at q5
  clear hk hen hho
  by_cases h1 : k = 1
  rotate_left
  · have z1 : (k == 1) = false := by rw [beq_eq_false_iff_ne]; exact h1
    replace HE : Hid (hld p r c = false) := Lib.hid (by rw [HE.out]; simp [*])
    (try dsimp only [Act.put])
    refine QB.region_below v1.heap.size (by kernel_rfl) (by kernel_rfl) ?_
    repeat first
      | (refine wpQuiet_load rfl 57 _ rfl ⟨gt, 0, none⟩ rfl (tuC p r c) _ (fun w' ⟨pw, e⟩ => by rw [e]; exact seg (H1.out.by pw) 0 0 rfl _ rfl) Try.underlying57 rfl infoTu ?_
         dsimp only [Act.put]
         simp only [List.setIfInBounds_toArray, List.set_cons_zero, List.set_cons_succ])
      | ((quiet_step (first | (go_at_call 28; with_reducible exact QB.call_of (Nat.le_refl _) (fun b => LO.out _)) | (go_at_call 27; with_reducible exact QB.call_of (Nat.le_refl _) (fun b => DU.out _)))))
    refine wpQuiet_nil ?_
    intro _ hw'
    obtain ⟨pq, rfl⟩ := hw'
    have HP := Lib.hid (H1.out.by pq)
    go_wp2
    go_ret
    exact ⟨ret_bool HE.out.symm, HP.out.bel⟩
  subst h1
  cases en
  rotate_left
  · replace HE : Hid (hld p r c = false) := Lib.hid (by rw [HE.out]; simp [*])
    (try dsimp only [Act.put])
    refine QB.region_below v1.heap.size (by kernel_rfl) (by kernel_rfl) ?_
    repeat first
      | (refine wpQuiet_load rfl 57 _ rfl ⟨gt, 0, none⟩ rfl (tuC p r c) _ (fun w' ⟨pw, e⟩ => by rw [e]; exact seg (H1.out.by pw) 0 0 rfl _ rfl) Try.underlying57 rfl infoTu ?_
         dsimp only [Act.put]
         simp only [List.setIfInBounds_toArray, List.set_cons_zero, List.set_cons_succ])
      | ((quiet_step (first | (go_at_call 28; with_reducible exact QB.call_of (Nat.le_refl _) (fun b => LO.out _)) | (go_at_call 27; with_reducible exact QB.call_of (Nat.le_refl _) (fun b => DU.out _)))))
    refine wpQuiet_nil ?_
    intro _ hw'
    obtain ⟨pq, rfl⟩ := hw'
    have HP := Lib.hid (H1.out.by pq)
    go_wp2
    go_ret
    exact ⟨ret_bool HE.out.symm, HP.out.bel⟩
  cases ho
  · replace HE : Hid (hld p r c = false) := Lib.hid (by rw [HE.out]; simp [*])
    (try dsimp only [Act.put])
    refine QB.region_below v1.heap.size (by kernel_rfl) (by kernel_rfl) ?_
    repeat first
      | (refine wpQuiet_load rfl 57 _ rfl ⟨gt, 0, none⟩ rfl (tuC p r c) _ (fun w' ⟨pw, e⟩ => by rw [e]; exact seg (H1.out.by pw) 0 0 rfl _ rfl) Try.underlying57 rfl infoTu ?_
         dsimp only [Act.put]
         simp only [List.setIfInBounds_toArray, List.set_cons_zero, List.set_cons_succ])
      | ((quiet_step (first | (go_at_call 28; with_reducible exact QB.call_of (Nat.le_refl _) (fun b => LO.out _)) | (go_at_call 27; with_reducible exact QB.call_of (Nat.le_refl _) (fun b => DU.out _)))))
    refine wpQuiet_nil ?_
    intro _ hw'
    obtain ⟨pq, rfl⟩ := hw'
    have HP := Lib.hid (H1.out.by pq)
    go_wp2
    go_ret
    exact ⟨ret_bool HE.out.symm, HP.out.bel⟩
  · replace HE : Hid (hld p r c = du) := Lib.hid (by rw [HE.out]; simp [*])
    (try dsimp only [Act.put])
    refine QB.region_below v1.heap.size (by kernel_rfl) (by kernel_rfl) ?_
    repeat first
      | (refine wpQuiet_load rfl 57 _ rfl ⟨gt, 0, none⟩ rfl (tuC p r c) _ (fun w' ⟨pw, e⟩ => by rw [e]; exact seg (H1.out.by pw) 0 0 rfl _ rfl) Try.underlying57 rfl infoTu ?_
         dsimp only [Act.put]
         simp only [List.setIfInBounds_toArray, List.set_cons_zero, List.set_cons_succ])
      | ((quiet_step (first | (go_at_call 28; with_reducible exact QB.call_of (Nat.le_refl _) (fun b => LO.out _)) | (go_at_call 27; with_reducible exact QB.call_of (Nat.le_refl _) (fun b => DU.out _)))))
    refine wpQuiet_nil ?_
    intro _ hw'
    obtain ⟨pq, rfl⟩ := hw'
    have HP := Lib.hid (H1.out.by pq)
    go_wp2
    go_ret
    exact ⟨ret_bool HE.out.symm, HP.out.bel⟩
end Go.Proofs.Ytbpfknkbiaplpaa.Ru
