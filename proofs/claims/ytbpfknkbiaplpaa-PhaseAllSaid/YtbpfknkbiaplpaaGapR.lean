/- Package gap: the contract of the document's Grow. -/
import Derived.Test.YtbpfknkbiaplpaaGap
namespace Go.Proofs.Ytbpfknkbiaplpaa.Gap
open Go.ChangeShapes Go.WideShapes Go.ChangeAt Go.RowKit
open Tab Flat TabArg
open May (infoP)
set_option linter.unusedVariables false
set_option linter.unusedSimpArgs false
set_option maxRecDepth 100000
set_option maxHeartbeats 8000000 in
theorem rgrow_is {p : Ph} {n u d l' u' d' : Int} {b : Bool} (hs : gr p ⟨n, u, d⟩ b = ⟨l', u', d'⟩) (w : World) : Calls Try.prog 20 #[.agg p.cells.toArray, .agg #[I n, I u, I d], .bool b] w fun e w' => e = .returned (.agg #[I l', I u', I d']) ∧ Below w.heap.size w w' := by
  have h0 := (((Blk.Bks.nil w).alloc p.cells.toArray 23).alloc #[I n, I u, I d] 27).alloc #[I 0, I 0, I 0] 27
  rw [show ((w.alloc (.cells p.cells.toArray 23)).alloc (.cells #[I n, I u, I d] 27)).heap.size = w.heap.size + 1 + 1 by simp, show (w.alloc (.cells p.cells.toArray 23)).heap.size = w.heap.size + 1 by simp] at h0
  have HS := Lib.hid hs
  clear hs
  obtain ⟨r, hr⟩ : ∃ r, lm p n = r := ⟨_, rfl⟩
  have HR := Lib.hid hr
  have LM : Hid (∀ W, Calls Try.prog 21 #[.agg p.cells.toArray, .agg #[I n, I u, I d]] W fun e w' => e = .returned (.int .i64 r) ∧ Below W.heap.size W w') := Lib.hid (fun W => by rw [← hr]; exact rlim_any p n u d W)
  clear hr
  go_enter Try.func20, Try.ntmps20
  go_upto_region 1 with fail
  generalize World.alloc (World.alloc (World.alloc w _) _) _ = v0 at h0 ⊢
  generalize hgz : w.heap.size + 1 + 1 = gz at h0 ⊢
  generalize hgs : w.heap.size + 1 = gs at h0 ⊢
  generalize w.heap.size = gp at h0 ⊢
  clear hgz hgs
  have H0 := Lib.hid h0
  clear h0
  have LP : Hid (∀ W, Below v0.heap.size v0 W → Lies W ⟨gp, 0, none⟩ p.cells) := Lib.hid (fun W hb => by have := Row.lies_of_block ((H0.out.step hb).at 2 rfl); simpa using this)
  have LS : Hid (∀ W, Below v0.heap.size v0 W → Lies W ⟨gs, 0, none⟩ [I n, I u, I d]) := Lib.hid (fun W hb => by have := Row.lies_of_block ((H0.out.step hb).at 1 rfl); simpa using this)
  go_wp2_with (first | (refine Row.wpList_load_g 23 _ rfl (by first | rfl | go_simp) ⟨gp, 0, none⟩ rfl p.cells _ (LP.out _ (Below.refl _ _)) Try.underlying23 rfl infoP ?_) | (refine Row.wpList_load_g 27 _ rfl (by first | rfl | go_simp) ⟨gs, 0, none⟩ rfl [I n, I u, I d] _ (LS.out _ (Below.refl _ _)) Try.underlying27 rfl infoTn ?_))
  refine (LM.out _).mono ?_
  rintro e vc ⟨rfl, hb⟩
  go_upto_region 3 with fail
  have hB := (H0.out.step hb).alloc #[I r, I 0, I 0] 27
  generalize World.alloc vc _ = wx at hB ⊢
  generalize vc.heap.size = g at hB ⊢
  clear hb
  have HB := Lib.hid hB
  clear hB
  cases b
  · by_cases hx : d < 1
    · have hx2 := HS.out
      unfold gr at hx2
      rw [if_neg (by simp), if_pos hx] at hx2
      dsimp only at hx2
      rw [HR.out] at hx2
      injection hx2 with e1 e2 e3
      have HV : Hid (Ending.returned (Value.agg #[I r, I 0, I 1]) = Ending.returned (Value.agg #[I l', I u', I d'])) := Lib.hid (by rw [← e1, ← e2, ← e3])
      clear e1 e2 e3
      have c1 : wx.cell? ⟨gs, 1, none⟩ = some (I u) := HB.out.cell 2 1 rfl rfl
      have c2 : wx.cell? ⟨gs, 2, none⟩ = some (I d) := HB.out.cell 2 2 rfl rfl
      have CC : Hid (∀ W, Calls Try.prog 38 #[.int .i64 d, .int .i64 0, .int .i64 1] W fun e w' => e = .returned (.int .i64 0) ∧ W = w') := Lib.hid (fun W => by have := Cnt.rcut_any d 0 1 W; rwa [show Cnt.ct d 0 1 = 0 by unfold Cnt.ct; split <;> (try split) <;> omega] at this)
      clear hx
      have kg : wx.cell? ⟨g, 2, none⟩ = some (I 0) := HB.out.cell 0 2 rfl rfl
      have fg : wx.frozen? ⟨g, 2, none⟩ = false := HB.out.frozen 0 2 rfl
      go_upto_region 9 with (go_at_call 38; refine (CC.out _).mono ?_; rintro e w' ⟨rfl, rfl⟩)
      have hput := HB.out.set 0 2 rfl (I 1)
      simp only [List.set_cons_succ, List.set_cons_zero, List.setIfInBounds_toArray] at hput
      generalize World.setCell _ _ _ = v2 at hput ⊢
      have HC := Lib.hid hput
      clear hput
      go_wp2_with (first | (refine Row.wpList_load_g 27 _ rfl (by first | rfl | go_simp) ⟨g, 0, none⟩ rfl [I r, I 0, I 1] _ (by have := Row.lies_of_block (HC.out.at 0 rfl); simpa using this) Try.underlying27 rfl infoTn ?_) | (refine wpList_store_row rfl 27 _ _ rfl gz #[I r, I 0, I 1] rfl rfl 27 _ (HC.out.at 1 rfl) infoTn rfl (by simp [Value.oneCell']) ?_))
      have hput := HC.out.put 1 rfl #[I r, I 0, I 1]
      simp only [List.set_cons_succ, List.set_cons_zero] at hput
      generalize World.setRow _ gz _ = v4 at hput ⊢
      have HG := Lib.hid hput
      clear hput
      go_wp2_with fail
      (try simp only [Exit.inBlock, Exit.then])
      refine bodyPost_ret (v := .agg #[I r, I 0, I 1]) ?_ rfl ⟨HV.out, HG.out.bel⟩
      exact results_cell_row rfl _ _ gz 27 _ (0, 0) _ rfl (HG.out.at 1 rfl) Try.underlying27 rfl infoTn
    · have hx2 := HS.out
      unfold gr at hx2
      rw [if_neg (by simp), if_neg hx] at hx2
      dsimp only at hx2
      rw [HR.out] at hx2
      obtain ⟨q, hq⟩ : ∃ q, lm p (wr (r - p.step)) = q := ⟨_, rfl⟩
      rw [hq] at hx2
      have HQ : Hid (∀ W, Calls Try.prog 21 #[.agg p.cells.toArray, .agg #[.int .i64 (wrap64 (r - p.step)), I 0, I 0]] W fun e w' => e = .returned (.int .i64 q) ∧ Below W.heap.size W w') := Lib.hid (fun W => by rw [← hq]; exact rlim_any p _ 0 0 W)
      clear hq
      injection hx2 with e1 e2 e3
      have HV : Hid (Ending.returned (Value.agg #[I q, I 0, I 0]) = Ending.returned (Value.agg #[I l', I u', I d'])) := Lib.hid (by rw [← e1, ← e2, ← e3])
      clear e1 e2 e3
      have c1 : wx.cell? ⟨gs, 1, none⟩ = some (I u) := HB.out.cell 2 1 rfl rfl
      have c2 : wx.cell? ⟨gs, 2, none⟩ = some (I d) := HB.out.cell 2 2 rfl rfl
      have CC : Hid (∀ W, Calls Try.prog 38 #[.int .i64 d, .int .i64 0, .int .i64 1] W fun e w' => e = .returned (.int .i64 1) ∧ W = w') := Lib.hid (fun W => by have := Cnt.rcut_any d 0 1 W; rwa [show Cnt.ct d 0 1 = 1 by unfold Cnt.ct; split <;> (try split) <;> omega] at this)
      clear hx
      have kg : wx.cell? ⟨g, 0, none⟩ = some (I r) := HB.out.cell 0 0 rfl rfl
      have k5 : wx.cell? ⟨gp, 5, none⟩ = some (I p.step) := HB.out.cell 3 5 rfl rfl
      go_wp2_with (first | (refine Row.wpList_load_g 23 _ rfl (by first | rfl | go_simp) ⟨gp, 0, none⟩ rfl p.cells _ (by have := Row.lies_of_block (HB.out.at 3 rfl); simpa using this) Try.underlying23 rfl infoP ?_) | (go_at_call 38; refine (CC.out _).mono ?_; rintro e w' ⟨rfl, rfl⟩))
      refine (HQ.out _).mono ?_
      rintro e vd ⟨rfl, hb⟩
      have HB2 := Lib.hid (HB.out.step hb)
      clear hb kg
      have kg : vd.cell? ⟨g, 0, none⟩ = some (I r) := HB2.out.cell 0 0 rfl rfl
      have fg : vd.frozen? ⟨g, 0, none⟩ = false := HB2.out.frozen 0 0 rfl
      go_upto_region 9 with fail
      have hput := HB2.out.set 0 0 rfl (I q)
      simp only [List.set_cons_succ, List.set_cons_zero, List.setIfInBounds_toArray] at hput
      generalize World.setCell _ _ _ = v2 at hput ⊢
      have HC := Lib.hid hput
      clear hput
      go_wp2_with (first | (refine Row.wpList_load_g 27 _ rfl (by first | rfl | go_simp) ⟨g, 0, none⟩ rfl [I q, I 0, I 0] _ (by have := Row.lies_of_block (HC.out.at 0 rfl); simpa using this) Try.underlying27 rfl infoTn ?_) | (refine wpList_store_row rfl 27 _ _ rfl gz #[I q, I 0, I 0] rfl rfl 27 _ (HC.out.at 1 rfl) infoTn rfl (by simp [Value.oneCell']) ?_))
      have hput := HC.out.put 1 rfl #[I q, I 0, I 0]
      simp only [List.set_cons_succ, List.set_cons_zero] at hput
      generalize World.setRow _ gz _ = v4 at hput ⊢
      have HG := Lib.hid hput
      clear hput
      go_wp2_with fail
      (try simp only [Exit.inBlock, Exit.then])
      refine bodyPost_ret (v := .agg #[I q, I 0, I 0]) ?_ rfl ⟨HV.out, HG.out.bel⟩
      exact results_cell_row rfl _ _ gz 27 _ (0, 0) _ rfl (HG.out.at 1 rfl) Try.underlying27 rfl infoTn
  · by_cases hx : u < 1
    · have hx2 := HS.out
      unfold gr at hx2
      rw [if_pos rfl, if_pos hx] at hx2
      dsimp only at hx2
      rw [HR.out] at hx2
      injection hx2 with e1 e2 e3
      have HV : Hid (Ending.returned (Value.agg #[I r, I 1, I 0]) = Ending.returned (Value.agg #[I l', I u', I d'])) := Lib.hid (by rw [← e1, ← e2, ← e3])
      clear e1 e2 e3
      have c1 : wx.cell? ⟨gs, 1, none⟩ = some (I u) := HB.out.cell 2 1 rfl rfl
      have c2 : wx.cell? ⟨gs, 2, none⟩ = some (I d) := HB.out.cell 2 2 rfl rfl
      have CC : Hid (∀ W, Calls Try.prog 38 #[.int .i64 u, .int .i64 0, .int .i64 1] W fun e w' => e = .returned (.int .i64 0) ∧ W = w') := Lib.hid (fun W => by have := Cnt.rcut_any u 0 1 W; rwa [show Cnt.ct u 0 1 = 0 by unfold Cnt.ct; split <;> (try split) <;> omega] at this)
      clear hx
      have kg : wx.cell? ⟨g, 1, none⟩ = some (I 0) := HB.out.cell 0 1 rfl rfl
      have fg : wx.frozen? ⟨g, 1, none⟩ = false := HB.out.frozen 0 1 rfl
      go_upto_region 9 with (go_at_call 38; refine (CC.out _).mono ?_; rintro e w' ⟨rfl, rfl⟩)
      have hput := HB.out.set 0 1 rfl (I 1)
      simp only [List.set_cons_succ, List.set_cons_zero, List.setIfInBounds_toArray] at hput
      generalize World.setCell _ _ _ = v2 at hput ⊢
      have HC := Lib.hid hput
      clear hput
      go_wp2_with (first | (refine Row.wpList_load_g 27 _ rfl (by first | rfl | go_simp) ⟨g, 0, none⟩ rfl [I r, I 1, I 0] _ (by have := Row.lies_of_block (HC.out.at 0 rfl); simpa using this) Try.underlying27 rfl infoTn ?_) | (refine wpList_store_row rfl 27 _ _ rfl gz #[I r, I 1, I 0] rfl rfl 27 _ (HC.out.at 1 rfl) infoTn rfl (by simp [Value.oneCell']) ?_))
      have hput := HC.out.put 1 rfl #[I r, I 1, I 0]
      simp only [List.set_cons_succ, List.set_cons_zero] at hput
      generalize World.setRow _ gz _ = v4 at hput ⊢
      have HG := Lib.hid hput
      clear hput
      go_wp2_with fail
      (try simp only [Exit.inBlock, Exit.then])
      refine bodyPost_ret (v := .agg #[I r, I 1, I 0]) ?_ rfl ⟨HV.out, HG.out.bel⟩
      exact results_cell_row rfl _ _ gz 27 _ (0, 0) _ rfl (HG.out.at 1 rfl) Try.underlying27 rfl infoTn
    · have hx2 := HS.out
      unfold gr at hx2
      rw [if_pos rfl, if_neg hx] at hx2
      dsimp only at hx2
      rw [HR.out] at hx2
      obtain ⟨q, hq⟩ : ∃ q, lm p (wr (r + p.step)) = q := ⟨_, rfl⟩
      rw [hq] at hx2
      have HQ : Hid (∀ W, Calls Try.prog 21 #[.agg p.cells.toArray, .agg #[.int .i64 (wrap64 (r + p.step)), I 0, I 0]] W fun e w' => e = .returned (.int .i64 q) ∧ Below W.heap.size W w') := Lib.hid (fun W => by rw [← hq]; exact rlim_any p _ 0 0 W)
      clear hq
      injection hx2 with e1 e2 e3
      have HV : Hid (Ending.returned (Value.agg #[I q, I 0, I 0]) = Ending.returned (Value.agg #[I l', I u', I d'])) := Lib.hid (by rw [← e1, ← e2, ← e3])
      clear e1 e2 e3
      have c1 : wx.cell? ⟨gs, 1, none⟩ = some (I u) := HB.out.cell 2 1 rfl rfl
      have c2 : wx.cell? ⟨gs, 2, none⟩ = some (I d) := HB.out.cell 2 2 rfl rfl
      have CC : Hid (∀ W, Calls Try.prog 38 #[.int .i64 u, .int .i64 0, .int .i64 1] W fun e w' => e = .returned (.int .i64 1) ∧ W = w') := Lib.hid (fun W => by have := Cnt.rcut_any u 0 1 W; rwa [show Cnt.ct u 0 1 = 1 by unfold Cnt.ct; split <;> (try split) <;> omega] at this)
      clear hx
      have kg : wx.cell? ⟨g, 0, none⟩ = some (I r) := HB.out.cell 0 0 rfl rfl
      have k5 : wx.cell? ⟨gp, 5, none⟩ = some (I p.step) := HB.out.cell 3 5 rfl rfl
      go_wp2_with (first | (refine Row.wpList_load_g 23 _ rfl (by first | rfl | go_simp) ⟨gp, 0, none⟩ rfl p.cells _ (by have := Row.lies_of_block (HB.out.at 3 rfl); simpa using this) Try.underlying23 rfl infoP ?_) | (go_at_call 38; refine (CC.out _).mono ?_; rintro e w' ⟨rfl, rfl⟩))
      refine (HQ.out _).mono ?_
      rintro e vd ⟨rfl, hb⟩
      have HB2 := Lib.hid (HB.out.step hb)
      clear hb kg
      have kg : vd.cell? ⟨g, 0, none⟩ = some (I r) := HB2.out.cell 0 0 rfl rfl
      have fg : vd.frozen? ⟨g, 0, none⟩ = false := HB2.out.frozen 0 0 rfl
      go_upto_region 9 with fail
      have hput := HB2.out.set 0 0 rfl (I q)
      simp only [List.set_cons_succ, List.set_cons_zero, List.setIfInBounds_toArray] at hput
      generalize World.setCell _ _ _ = v2 at hput ⊢
      have HC := Lib.hid hput
      clear hput
      go_wp2_with (first | (refine Row.wpList_load_g 27 _ rfl (by first | rfl | go_simp) ⟨g, 0, none⟩ rfl [I q, I 0, I 0] _ (by have := Row.lies_of_block (HC.out.at 0 rfl); simpa using this) Try.underlying27 rfl infoTn ?_) | (refine wpList_store_row rfl 27 _ _ rfl gz #[I q, I 0, I 0] rfl rfl 27 _ (HC.out.at 1 rfl) infoTn rfl (by simp [Value.oneCell']) ?_))
      have hput := HC.out.put 1 rfl #[I q, I 0, I 0]
      simp only [List.set_cons_succ, List.set_cons_zero] at hput
      generalize World.setRow _ gz _ = v4 at hput ⊢
      have HG := Lib.hid hput
      clear hput
      go_wp2_with fail
      (try simp only [Exit.inBlock, Exit.then])
      refine bodyPost_ret (v := .agg #[I q, I 0, I 0]) ?_ rfl ⟨HV.out, HG.out.bel⟩
      exact results_cell_row rfl _ _ gz 27 _ (0, 0) _ rfl (HG.out.at 1 rfl) Try.underlying27 rfl infoTn
end Go.Proofs.Ytbpfknkbiaplpaa.Gap
