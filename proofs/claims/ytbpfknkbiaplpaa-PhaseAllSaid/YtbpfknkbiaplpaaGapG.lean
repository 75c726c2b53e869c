/- Package gap: contracts of Grow, and of the examples. -/
import Derived.Test.YtbpfknkbiaplpaaGap
namespace Go.Proofs.Ytbpfknkbiaplpaa.Gap
open Go.ChangeShapes Go.WideShapes Go.ChangeAt Go.RowKit
open Tab Flat TabArg
open May (infoP)
set_option linter.unusedVariables false
set_option linter.unusedSimpArgs false
set_option maxRecDepth 100000
set_option maxHeartbeats 8000000 in
theorem grow_is {p : Ph} {n u d l' u' d' : Int} {b : Bool} (hs : gr p ⟨n, u, d⟩ b = ⟨l', u', d'⟩) (w : World) : Calls Try.prog 70 #[.agg p.cells.toArray, .agg #[I n, I u, I d], .bool b] w fun e w' => e = .returned (.agg #[I l', I u', I d']) ∧ Below w.heap.size w w' := by
  have h0 := (((Blk.Bks.nil w).alloc p.cells.toArray 23).alloc #[I n, I u, I d] 27).alloc #[I 0, I 0, I 0] 27
  rw [show ((w.alloc (.cells p.cells.toArray 23)).alloc (.cells #[I n, I u, I d] 27)).heap.size = w.heap.size + 1 + 1 by simp, show (w.alloc (.cells p.cells.toArray 23)).heap.size = w.heap.size + 1 by simp] at h0
  have HS := Lib.hid hs
  clear hs
  obtain ⟨r, hr⟩ : ∃ r, lm p n = r := ⟨_, rfl⟩
  have HR := Lib.hid hr
  have LM : Hid (∀ W, Calls Try.prog 74 #[.agg p.cells.toArray, .agg #[I n, I u, I d]] W fun e w' => e = .returned (.int .i64 r) ∧ Below W.heap.size W w') := Lib.hid (fun W => by rw [← hr]; exact lim_any p n u d W)
  clear hr
  go_enter Try.func70, Try.ntmps70
  go_upto_region 1 with fail
  generalize World.alloc (World.alloc (World.alloc w _) _) _ = v0 at h0 ⊢
  generalize hgz : w.heap.size + 1 + 1 = gz at h0 ⊢
  generalize hgs : w.heap.size + 1 = gs at h0 ⊢
  generalize w.heap.size = gp at h0 ⊢
  clear hgz hgs
  have H0 := Lib.hid h0
  clear h0
  have LP : Hid (∀ W, Below v0.heap.size v0 W → Lies W ⟨gp, 0, none⟩ p.cells) := Lib.hid (fun W hb => by have := Row.lies_of_block ((H0.out.step hb).at 2 rfl); simpa using this)
  have LS : Hid (∀ W, Below v0.heap.size v0 W → Lies W ⟨gs, 0, none⟩ [I n, I u, I d]) := Lib.hid (fun W hb => by have := Row.lies_of_block ((H0.out.step hb).at 1 rfl); simpa using this)
  have LC : Hid (∀ W, Below v0.heap.size v0 W → W.cell? ⟨gp, 5, none⟩ = some (I p.step)) := Lib.hid (fun W hb => (H0.out.step hb).cell 2 5 rfl rfl)
  go_cut [7, 8] from 9 (fun t7 t8 wx => ∃ g, t7 = .pointer (some ⟨g, 0, none⟩) ∧ t8 = .int .i64 p.step ∧ Blk.Bks w ((g, #[I r, I 0, I 0], 27) :: (gz, #[I 0, I 0, I 0], 27) :: (gs, #[I n, I u, I d], 27) :: (gp, p.cells.toArray, 23) :: []) wx)
  case first =>
    refine wp_region_held (S := fun w' => Below v0.heap.size v0 w') (by kernel_rfl) ?_
    have hS : Below v0.heap.size v0 { v0 with drawn := v0.drawn + 1 } := (Below.refl _ _).drew
    generalize ({ v0 with drawn := v0.drawn + 1 } : World) = v at hS ⊢
    refine Held.take_load (i := 0) (some 9) rfl 23 (.tmp 3) ⟨gp, 0, none⟩ p.cells _ rfl rfl (by kernel_rfl) (by kernel_rfl) (by kernel_rfl) (fun _ _ _ h => h) (by rfl) hS rfl (fun w' hw' => LP.out w' hw') Try.underlying23 rfl infoP ?_
    (try dsimp only [Act.put]); (try simp only [List.setIfInBounds_toArray, List.set_cons_zero, List.set_cons_succ])
    refine Held.take_load (i := 1) (some 10) rfl 27 (.tmp 4) ⟨gs, 0, none⟩ [I n, I u, I d] _ rfl rfl (by kernel_rfl) (by kernel_rfl) (by kernel_rfl) (fun _ _ _ h => h) (by rfl) hS rfl (fun w' hw' => LS.out w' hw') Try.underlying27 rfl infoTn ?_
    (try dsimp only [Act.put]); (try simp only [List.setIfInBounds_toArray, List.set_cons_zero, List.set_cons_succ])
    refine Held.take (i := 4) (some 13) rfl (v := ?_) rfl (by kernel_rfl) (by kernel_rfl) (by kernel_rfl) (fun _ _ _ h => h) (Or.inl ⟨by rfl, ?_⟩) hS ?_
    rotate_left
    · intro w' hw'
      go_simp
      try with_reducible rfl
    (try dsimp only [Act.put]); (try simp only [List.setIfInBounds_toArray, List.set_cons_zero, List.set_cons_succ])
    refine Held.take (i := 5) (some 14) rfl (v := ?_) rfl (by kernel_rfl) (by kernel_rfl) (by kernel_rfl) (fun _ _ _ h => h) (Or.inl ⟨by rfl, ?_⟩) hS ?_
    rotate_left
    · intro w' hw'
      have cf := LC.out w' hw'
      go_simp
      try with_reducible rfl
    (try dsimp only [Act.put]); (try simp only [List.setIfInBounds_toArray, List.set_cons_zero, List.set_cons_succ])
    refine wpAnyH_ready (rs := [2, 6]) (by kernel_rfl) (by simp) (AllReadyH.cons rfl (fun K hK => ?_) (AllReadyH.cons rfl (fun K hK => ?_) AllReadyH.nil))
    · go_simp
      refine (LM.out _).mono ?_
      rintro e vc ⟨rfl, hb⟩
      have hq := hS.trans (hb.mono hS.size)
      clear hS hb
      go_simp
      refine hK.out _ _ hq (fun hS => ?_)
      clear hK K hq
      (try dsimp only [Act.put]); (try simp only [List.setIfInBounds_toArray, List.set_cons_zero, List.set_cons_succ])
      refine Held.take_build (i := 3) (some 12) rfl 27 #[(0, .tmp 11)] #[I r, I 0, I 0] rfl rfl (by kernel_rfl) (by kernel_rfl) (by kernel_rfl) (fun _ _ _ h => h) (by rfl) hS (by have h := built1 r; first | (simp [Act.eval]; exact h) | (go_simp; exact h)) ?_
      (try dsimp only [Act.put]); (try simp only [List.setIfInBounds_toArray, List.set_cons_zero, List.set_cons_succ])
      refine wpAnyH_ready (rs := [6]) (by kernel_rfl) (by simp) (AllReadyH.cons rfl (fun K hK => ?_) AllReadyH.nil)
      go_simp
      have ha := (H0.out.step hS).alloc #[I 0, I 0, I 0] 27
      have HGE := Lib.hid hS.size
      have hq := hS.alloc hS.size (.cells #[I 0, I 0, I 0] 27)
      clear hS
      generalize vc.heap.size = ga at ha HGE ⊢
      generalize World.alloc vc _ = va at ha hq ⊢
      have HA := Lib.hid ha
      clear ha
      refine hK.out _ _ hq (fun hS => ?_)
      clear hK K hq
      (try dsimp only [Act.put]); (try simp only [List.setIfInBounds_toArray, List.set_cons_zero, List.set_cons_succ])
      have HB1 := HA
      refine wpAnyH_ready (rs := [7]) (by kernel_rfl) (by simp) (AllReadyH.cons rfl (fun K hK => ?_) AllReadyH.nil)
      rw [if_pos (by rfl)]
      refine wp_store_row 27 _ _ rfl ga #[I r, I 0, I 0] rfl rfl 27 _ (HB1.out.at 0 rfl) infoTn rfl (by simp [Value.oneCell']) ?_
      have hq := below_setRow hS (g := ga) HGE.out #[I r, I 0, I 0]
      have hput := HB1.out.put 0 rfl #[I r, I 0, I 0]
      simp only [List.set_cons_succ, List.set_cons_zero] at hput
      generalize World.setRow _ ga _ = vs at hput hq ⊢
      have HC := Lib.hid hput
      clear hput
      refine hK.out _ _ hq (fun hS => ?_)
      clear hK K hq
      (try simp only [List.getElem_toArray, List.getElem_cons_succ, List.getElem_cons_zero])
      (try dsimp only [Act.put]); (try simp only [List.setIfInBounds_toArray, List.set_cons_zero, List.set_cons_succ])
      refine Held.take (i := 8) (some 8) rfl (v := ?_) rfl (by kernel_rfl) (by kernel_rfl) (by kernel_rfl) (fun _ _ _ h => h) (Or.inl ⟨by rfl, ?_⟩) hS ?_
      rotate_left
      · intro w' hw'
        go_simp
        try with_reducible rfl
      (try dsimp only [Act.put]); (try simp only [List.setIfInBounds_toArray, List.set_cons_zero, List.set_cons_succ])
      refine wpAnyH_done (by kernel_rfl) ?_ _
      go_wp2_with fail
      go_meet
      case rel => exact ⟨ga, rfl, rfl, HC.out⟩
    · go_simp
      have ha := (H0.out.step hS).alloc #[I 0, I 0, I 0] 27
      have HGE := Lib.hid hS.size
      have hq := hS.alloc hS.size (.cells #[I 0, I 0, I 0] 27)
      clear hS
      generalize v.heap.size = ga at ha HGE ⊢
      generalize World.alloc v _ = va at ha hq ⊢
      have HA := Lib.hid ha
      clear ha
      refine hK.out _ _ hq (fun hS => ?_)
      clear hK K hq
      (try dsimp only [Act.put]); (try simp only [List.setIfInBounds_toArray, List.set_cons_zero, List.set_cons_succ])
      refine wpAnyH_ready (rs := [2]) (by kernel_rfl) (by simp) (AllReadyH.cons rfl (fun K hK => ?_) AllReadyH.nil)
      go_simp
      refine (LM.out _).mono ?_
      rintro e vc ⟨rfl, hb⟩
      have hq := hS.trans (hb.mono hS.size)
      have HA2 := Lib.hid (HA.out.step hb)
      clear HA
      have HA := HA2
      clear hS hb
      go_simp
      refine hK.out _ _ hq (fun hS => ?_)
      clear hK K hq
      (try dsimp only [Act.put]); (try simp only [List.setIfInBounds_toArray, List.set_cons_zero, List.set_cons_succ])
      refine Held.take_build (i := 3) (some 12) rfl 27 #[(0, .tmp 11)] #[I r, I 0, I 0] rfl rfl (by kernel_rfl) (by kernel_rfl) (by kernel_rfl) (fun _ _ _ h => h) (by rfl) hS (by have h := built1 r; first | (simp [Act.eval]; exact h) | (go_simp; exact h)) ?_
      (try dsimp only [Act.put]); (try simp only [List.setIfInBounds_toArray, List.set_cons_zero, List.set_cons_succ])
      have HB1 := HA
      refine wpAnyH_ready (rs := [7]) (by kernel_rfl) (by simp) (AllReadyH.cons rfl (fun K hK => ?_) AllReadyH.nil)
      rw [if_pos (by rfl)]
      refine wp_store_row 27 _ _ rfl ga #[I r, I 0, I 0] rfl rfl 27 _ (HB1.out.at 0 rfl) infoTn rfl (by simp [Value.oneCell']) ?_
      have hq := below_setRow hS (g := ga) HGE.out #[I r, I 0, I 0]
      have hput := HB1.out.put 0 rfl #[I r, I 0, I 0]
      simp only [List.set_cons_succ, List.set_cons_zero] at hput
      generalize World.setRow _ ga _ = vs at hput hq ⊢
      have HC := Lib.hid hput
      clear hput
      refine hK.out _ _ hq (fun hS => ?_)
      clear hK K hq
      (try simp only [List.getElem_toArray, List.getElem_cons_succ, List.getElem_cons_zero])
      (try dsimp only [Act.put]); (try simp only [List.setIfInBounds_toArray, List.set_cons_zero, List.set_cons_succ])
      refine Held.take (i := 8) (some 8) rfl (v := ?_) rfl (by kernel_rfl) (by kernel_rfl) (by kernel_rfl) (fun _ _ _ h => h) (Or.inl ⟨by rfl, ?_⟩) hS ?_
      rotate_left
      · intro w' hw'
        go_simp
        try with_reducible rfl
      (try dsimp only [Act.put]); (try simp only [List.setIfInBounds_toArray, List.set_cons_zero, List.set_cons_succ])
      refine wpAnyH_done (by kernel_rfl) ?_ _
      go_wp2_with fail
      go_meet
      case rel => exact ⟨ga, rfl, rfl, HC.out⟩
  case rest =>
  obtain ⟨g, rfl, rfl, hB⟩ := hcut
  rename World => wx
  have HB := Lib.hid hB
  clear hB
  cases b
  · by_cases hx : d < 1
    · have hx2 := HS.out
      unfold gr at hx2
      rw [if_neg (by simp), if_pos hx] at hx2
      dsimp only at hx2
      rw [HR.out] at hx2
      injection hx2 with e1 e2 e3
      have HV : Hid (Ending.returned (Value.agg #[I r, I 0, I 1]) = Ending.returned (Value.agg #[I l', I u', I d'])) := Lib.hid (by rw [← e1, ← e2, ← e3])
      clear e1 e2 e3
      have c1 : wx.cell? ⟨gs, 1, none⟩ = some (I u) := HB.out.cell 2 1 rfl rfl
      have c2 : wx.cell? ⟨gs, 2, none⟩ = some (I d) := HB.out.cell 2 2 rfl rfl
      have kg : wx.cell? ⟨g, 2, none⟩ = some (I 0) := HB.out.cell 0 2 rfl rfl
      have fg : wx.frozen? ⟨g, 2, none⟩ = false := HB.out.frozen 0 2 rfl
      go_upto_region 9 with fail
      have hput := HB.out.set 0 2 rfl (I 1)
      simp only [List.set_cons_succ, List.set_cons_zero, List.setIfInBounds_toArray] at hput
      generalize World.setCell _ _ _ = v2 at hput ⊢
      have HC := Lib.hid hput
      clear hput
      go_wp2_with (first | (refine Row.wpList_load_g 27 _ rfl (by first | rfl | go_simp) ⟨g, 0, none⟩ rfl [I r, I 0, I 1] _ (by have := Row.lies_of_block (HC.out.at 0 rfl); simpa using this) Try.underlying27 rfl infoTn ?_) | (refine wpList_store_row rfl 27 _ _ rfl gz #[I r, I 0, I 1] rfl rfl 27 _ (HC.out.at 1 rfl) infoTn rfl (by simp [Value.oneCell']) ?_))
      have hput := HC.out.put 1 rfl #[I r, I 0, I 1]
      simp only [List.set_cons_succ, List.set_cons_zero] at hput
      generalize World.setRow _ gz _ = v4 at hput ⊢
      have HG := Lib.hid hput
      clear hput
      go_wp2_with fail
      (try simp only [Exit.inBlock, Exit.then])
      refine bodyPost_ret (v := .agg #[I r, I 0, I 1]) ?_ rfl ⟨HV.out, HG.out.bel⟩
      exact results_cell_row rfl _ _ gz 27 _ (0, 0) _ rfl (HG.out.at 1 rfl) Try.underlying27 rfl infoTn
    · have hx2 := HS.out
      unfold gr at hx2
      rw [if_neg (by simp), if_neg hx] at hx2
      dsimp only at hx2
      rw [HR.out] at hx2
      obtain ⟨q, hq⟩ : ∃ q, lm p (wr (r - p.step)) = q := ⟨_, rfl⟩
      rw [hq] at hx2
      have HQ : Hid (∀ W, Calls Try.prog 74 #[.agg p.cells.toArray, .agg #[.int .i64 (wrap64 (r + wrap64 (-p.step))), I 0, I 0]] W fun e w' => e = .returned (.int .i64 q) ∧ Below W.heap.size W w') := Lib.hid (fun W => by rw [← hq]; rw [← wr_neg]; exact lim_any p _ 0 0 W)
      clear hq
      injection hx2 with e1 e2 e3
      have HV : Hid (Ending.returned (Value.agg #[I q, I 0, I 0]) = Ending.returned (Value.agg #[I l', I u', I d'])) := Lib.hid (by rw [← e1, ← e2, ← e3])
      clear e1 e2 e3
      have c1 : wx.cell? ⟨gs, 1, none⟩ = some (I u) := HB.out.cell 2 1 rfl rfl
      have c2 : wx.cell? ⟨gs, 2, none⟩ = some (I d) := HB.out.cell 2 2 rfl rfl
      have kg : wx.cell? ⟨g, 0, none⟩ = some (I r) := HB.out.cell 0 0 rfl rfl
      go_wp2_with (first | (refine Row.wpList_load_g 23 _ rfl (by first | rfl | go_simp) ⟨gp, 0, none⟩ rfl p.cells _ (by have := Row.lies_of_block (HB.out.at 3 rfl); simpa using this) Try.underlying23 rfl infoP ?_) | fail)
      refine (HQ.out _).mono ?_
      rintro e vd ⟨rfl, hb⟩
      have HB2 := Lib.hid (HB.out.step hb)
      clear hb kg
      have kg : vd.cell? ⟨g, 0, none⟩ = some (I r) := HB2.out.cell 0 0 rfl rfl
      have fg : vd.frozen? ⟨g, 0, none⟩ = false := HB2.out.frozen 0 0 rfl
      go_upto_region 9 with fail
      have hput := HB2.out.set 0 0 rfl (I q)
      simp only [List.set_cons_succ, List.set_cons_zero, List.setIfInBounds_toArray] at hput
      generalize World.setCell _ _ _ = v2 at hput ⊢
      have HC := Lib.hid hput
      clear hput
      go_wp2_with (first | (refine Row.wpList_load_g 27 _ rfl (by first | rfl | go_simp) ⟨g, 0, none⟩ rfl [I q, I 0, I 0] _ (by have := Row.lies_of_block (HC.out.at 0 rfl); simpa using this) Try.underlying27 rfl infoTn ?_) | (refine wpList_store_row rfl 27 _ _ rfl gz #[I q, I 0, I 0] rfl rfl 27 _ (HC.out.at 1 rfl) infoTn rfl (by simp [Value.oneCell']) ?_))
      have hput := HC.out.put 1 rfl #[I q, I 0, I 0]
      simp only [List.set_cons_succ, List.set_cons_zero] at hput
      generalize World.setRow _ gz _ = v4 at hput ⊢
      have HG := Lib.hid hput
      clear hput
      go_wp2_with fail
      (try simp only [Exit.inBlock, Exit.then])
      refine bodyPost_ret (v := .agg #[I q, I 0, I 0]) ?_ rfl ⟨HV.out, HG.out.bel⟩
      exact results_cell_row rfl _ _ gz 27 _ (0, 0) _ rfl (HG.out.at 1 rfl) Try.underlying27 rfl infoTn
  · by_cases hx : u < 1
    · have hx2 := HS.out
      unfold gr at hx2
      rw [if_pos rfl, if_pos hx] at hx2
      dsimp only at hx2
      rw [HR.out] at hx2
      injection hx2 with e1 e2 e3
      have HV : Hid (Ending.returned (Value.agg #[I r, I 1, I 0]) = Ending.returned (Value.agg #[I l', I u', I d'])) := Lib.hid (by rw [← e1, ← e2, ← e3])
      clear e1 e2 e3
      have c1 : wx.cell? ⟨gs, 1, none⟩ = some (I u) := HB.out.cell 2 1 rfl rfl
      have c2 : wx.cell? ⟨gs, 2, none⟩ = some (I d) := HB.out.cell 2 2 rfl rfl
      have kg : wx.cell? ⟨g, 1, none⟩ = some (I 0) := HB.out.cell 0 1 rfl rfl
      have fg : wx.frozen? ⟨g, 1, none⟩ = false := HB.out.frozen 0 1 rfl
      go_upto_region 9 with fail
      have hput := HB.out.set 0 1 rfl (I 1)
      simp only [List.set_cons_succ, List.set_cons_zero, List.setIfInBounds_toArray] at hput
      generalize World.setCell _ _ _ = v2 at hput ⊢
      have HC := Lib.hid hput
      clear hput
      go_wp2_with (first | (refine Row.wpList_load_g 27 _ rfl (by first | rfl | go_simp) ⟨g, 0, none⟩ rfl [I r, I 1, I 0] _ (by have := Row.lies_of_block (HC.out.at 0 rfl); simpa using this) Try.underlying27 rfl infoTn ?_) | (refine wpList_store_row rfl 27 _ _ rfl gz #[I r, I 1, I 0] rfl rfl 27 _ (HC.out.at 1 rfl) infoTn rfl (by simp [Value.oneCell']) ?_))
      have hput := HC.out.put 1 rfl #[I r, I 1, I 0]
      simp only [List.set_cons_succ, List.set_cons_zero] at hput
      generalize World.setRow _ gz _ = v4 at hput ⊢
      have HG := Lib.hid hput
      clear hput
      go_wp2_with fail
      (try simp only [Exit.inBlock, Exit.then])
      refine bodyPost_ret (v := .agg #[I r, I 1, I 0]) ?_ rfl ⟨HV.out, HG.out.bel⟩
      exact results_cell_row rfl _ _ gz 27 _ (0, 0) _ rfl (HG.out.at 1 rfl) Try.underlying27 rfl infoTn
    · have hx2 := HS.out
      unfold gr at hx2
      rw [if_pos rfl, if_neg hx] at hx2
      dsimp only at hx2
      rw [HR.out] at hx2
      obtain ⟨q, hq⟩ : ∃ q, lm p (wr (r + p.step)) = q := ⟨_, rfl⟩
      rw [hq] at hx2
      have HQ : Hid (∀ W, Calls Try.prog 74 #[.agg p.cells.toArray, .agg #[.int .i64 (wrap64 (r + p.step)), I 0, I 0]] W fun e w' => e = .returned (.int .i64 q) ∧ Below W.heap.size W w') := Lib.hid (fun W => by rw [← hq]; exact lim_any p _ 0 0 W)
      clear hq
      injection hx2 with e1 e2 e3
      have HV : Hid (Ending.returned (Value.agg #[I q, I 0, I 0]) = Ending.returned (Value.agg #[I l', I u', I d'])) := Lib.hid (by rw [← e1, ← e2, ← e3])
      clear e1 e2 e3
      have c1 : wx.cell? ⟨gs, 1, none⟩ = some (I u) := HB.out.cell 2 1 rfl rfl
      have c2 : wx.cell? ⟨gs, 2, none⟩ = some (I d) := HB.out.cell 2 2 rfl rfl
      have kg : wx.cell? ⟨g, 0, none⟩ = some (I r) := HB.out.cell 0 0 rfl rfl
      go_wp2_with (first | (refine Row.wpList_load_g 23 _ rfl (by first | rfl | go_simp) ⟨gp, 0, none⟩ rfl p.cells _ (by have := Row.lies_of_block (HB.out.at 3 rfl); simpa using this) Try.underlying23 rfl infoP ?_) | fail)
      refine (HQ.out _).mono ?_
      rintro e vd ⟨rfl, hb⟩
      have HB2 := Lib.hid (HB.out.step hb)
      clear hb kg
      have kg : vd.cell? ⟨g, 0, none⟩ = some (I r) := HB2.out.cell 0 0 rfl rfl
      have fg : vd.frozen? ⟨g, 0, none⟩ = false := HB2.out.frozen 0 0 rfl
      go_upto_region 9 with fail
      have hput := HB2.out.set 0 0 rfl (I q)
      simp only [List.set_cons_succ, List.set_cons_zero, List.setIfInBounds_toArray] at hput
      generalize World.setCell _ _ _ = v2 at hput ⊢
      have HC := Lib.hid hput
      clear hput
      go_wp2_with (first | (refine Row.wpList_load_g 27 _ rfl (by first | rfl | go_simp) ⟨g, 0, none⟩ rfl [I q, I 0, I 0] _ (by have := Row.lies_of_block (HC.out.at 0 rfl); simpa using this) Try.underlying27 rfl infoTn ?_) | (refine wpList_store_row rfl 27 _ _ rfl gz #[I q, I 0, I 0] rfl rfl 27 _ (HC.out.at 1 rfl) infoTn rfl (by simp [Value.oneCell']) ?_))
      have hput := HC.out.put 1 rfl #[I q, I 0, I 0]
      simp only [List.set_cons_succ, List.set_cons_zero] at hput
      generalize World.setRow _ gz _ = v4 at hput ⊢
      have HG := Lib.hid hput
      clear hput
      go_wp2_with fail
      (try simp only [Exit.inBlock, Exit.then])
      refine bodyPost_ret (v := .agg #[I q, I 0, I 0]) ?_ rfl ⟨HV.out, HG.out.bel⟩
      exact results_cell_row rfl _ _ gz 27 _ (0, 0) _ rfl (HG.out.at 1 rfl) Try.underlying27 rfl infoTn
end Go.Proofs.Ytbpfknkbiaplpaa.Gap
