/- The examples of stage 16: the statements' own test of them. -/
import Derived.Test.YtldmmobgmfllkaaGapG
import Derived.Test.YtldmmobgmfllkaaQB
namespace Go.Proofs.Ytldmmobgmfllkaa.Gap
open Go.ChangeShapes Go.WideShapes Go.ChangeAt Go.RowKit
open Tab Flat TabArg
open May (infoP)
set_option linter.unusedVariables false
set_option linter.unusedSimpArgs false
set_option maxRecDepth 100000
def awP : Ph := ⟨false, 0, 3, 20, 30, 5, 0, 0, 0, 0, 0, false, false⟩
set_option maxHeartbeats 8000000 in
theorem awake_any (w : World) : Calls Try.prog 12 #[] w fun e w' => e = .returned (.bool true) ∧ Below w.heap.size w w' := by
  obtain ⟨p, hp⟩ : ∃ p : Ph, p = awP := ⟨_, rfl⟩
  have hc : p.cells.toArray = #[.bool false, I 0, I 3, I 20, I 30, I 5, I 0, I 0, I 0, I 0, I 0, .bool false, .bool false] := by rw [hp]; rfl
  have BG : Hid (∀ W, Calls Try.prog 9 #[.agg p.cells.toArray] W fun e w' => e = .returned (.agg #[I 20, I 0, I 0]) ∧ Below W.heap.size W w') := Lib.hid (fun W => by have := begin_any p W; rw [show p.max = 20 by rw [hp]; rfl] at this; exact this)
  have G1 : Hid (∀ W, Calls Try.prog 14 #[.agg p.cells.toArray, .agg #[I 20, I 0, I 0], .bool true] W fun e w' => e = .returned (.agg #[I 20, I 1, I 0]) ∧ Below W.heap.size W w') := Lib.hid (fun W => grow_is (by rw [hp]; decide +kernel) W)
  have G2 : Hid (∀ W, Calls Try.prog 14 #[.agg p.cells.toArray, .agg #[I 20, I 1, I 0], .bool true] W fun e w' => e = .returned (.agg #[I 25, I 0, I 0]) ∧ Below W.heap.size W w') := Lib.hid (fun W => grow_is (by rw [hp]; decide +kernel) W)
  have L1 : Hid (∀ W, Calls Try.prog 7 #[.agg p.cells.toArray, .int .i64 1, .bool true] W fun e w' => e = .returned (.int .i64 3) ∧ Below W.heap.size W w') := Lib.hid (fun W => by have := left_any p 1 true W; rw [show lf p.gap 1 true = 3 by rw [hp]; decide] at this; exact this)
  have L2 : Hid (∀ W, Calls Try.prog 7 #[.agg p.cells.toArray, .int .i64 1, .bool false] W fun e w' => e = .returned (.int .i64 0) ∧ Below W.heap.size W w') := Lib.hid (fun W => by have := left_any p 1 false W; rw [show lf p.gap 1 false = 0 by rw [hp]; decide] at this; exact this)
  have LI : Hid (∀ W, Calls Try.prog 10 #[.agg p.cells.toArray, .agg #[I 25, I 0, I 0]] W fun e w' => e = .returned (.int .i64 25) ∧ Below W.heap.size W w') := Lib.hid (fun W => by have := lim_any p 25 0 0 W; rw [show lm p 25 = 25 by rw [hp]; decide] at this; exact this)
  have h0 := (Blk.Bks.nil w).alloc p.cells.toArray 23
  rw [hc] at h0
  go_enter Try.func12, Try.ntmps12
  go_upto_region 2 with fail
  rw [← hc] at h0 ⊢
  clear hc hp
  generalize World.alloc w _ = v0 at h0 ⊢
  generalize w.heap.size = gp at h0 ⊢
  have H0 := Lib.hid h0
  clear h0
  have LP : Hid (∀ W, Below v0.heap.size v0 W → Lies W ⟨gp, 0, none⟩ p.cells) := Lib.hid (fun W hb => by have := Row.lies_of_block ((H0.out.step hb).at 0 rfl); simpa using this)
  go_cut [2] from 3 (fun t2 wx => ∃ g, t2 = .pointer (some ⟨g, 0, none⟩) ∧ Blk.Bks w ((g, #[I 25, I 0, I 0], 25) :: (gp, p.cells.toArray, 23) :: []) wx)
  case first =>
    refine wp_region_held (S := fun w' => Below v0.heap.size v0 w') (by kernel_rfl) ?_
    have hS : Below v0.heap.size v0 { v0 with drawn := v0.drawn + 1 } := (Below.refl _ _).drew
    generalize ({ v0 with drawn := v0.drawn + 1 } : World) = v at hS ⊢
    refine Held.take_load (i := 0) (some 4) rfl 23 (.tmp 1) ⟨gp, 0, none⟩ p.cells _ rfl rfl (by kernel_rfl) (by kernel_rfl) (by kernel_rfl) (fun _ _ _ h => h) (by rfl) hS rfl (fun w' hw' => LP.out w' hw') Try.underlying23 rfl infoP ?_
    (try dsimp only [Act.put]); (try simp only [List.setIfInBounds_toArray, List.set_cons_zero, List.set_cons_succ])
    refine Held.take_load (i := 1) (some 5) rfl 23 (.tmp 1) ⟨gp, 0, none⟩ p.cells _ rfl rfl (by kernel_rfl) (by kernel_rfl) (by kernel_rfl) (fun _ _ _ h => h) (by rfl) hS rfl (fun w' hw' => LP.out w' hw') Try.underlying23 rfl infoP ?_
    (try dsimp only [Act.put]); (try simp only [List.setIfInBounds_toArray, List.set_cons_zero, List.set_cons_succ])
    refine Held.take_load (i := 2) (some 6) rfl 23 (.tmp 1) ⟨gp, 0, none⟩ p.cells _ rfl rfl (by kernel_rfl) (by kernel_rfl) (by kernel_rfl) (fun _ _ _ h => h) (by rfl) hS rfl (fun w' hw' => LP.out w' hw') Try.underlying23 rfl infoP ?_
    (try dsimp only [Act.put]); (try simp only [List.setIfInBounds_toArray, List.set_cons_zero, List.set_cons_succ])
    refine wpAnyH_ready (rs := [3, 6]) (by kernel_rfl) (by simp) (AllReadyH.cons rfl (fun K hK => ?_) (AllReadyH.cons rfl (fun K hK => ?_) AllReadyH.nil))
    · go_simp
      refine (BG.out _).mono ?_
      rintro e vn ⟨rfl, hb⟩
      have hq := hS.trans (hb.mono hS.size)
      clear hS hb
      go_simp
      refine hK.out _ _ hq (fun hS => ?_)
      clear hK K hq
      rename World => v
      (try dsimp only [Act.put]); (try simp only [List.setIfInBounds_toArray, List.set_cons_zero, List.set_cons_succ])
      refine wpAnyH_ready (rs := [4, 6]) (by kernel_rfl) (by simp) (AllReadyH.cons rfl (fun K hK => ?_) (AllReadyH.cons rfl (fun K hK => ?_) AllReadyH.nil))
      · go_simp
        refine (G1.out _).mono ?_
        rintro e vn ⟨rfl, hb⟩
        have hq := hS.trans (hb.mono hS.size)
        clear hS hb
        go_simp
        refine hK.out _ _ hq (fun hS => ?_)
        clear hK K hq
        rename World => v
        (try dsimp only [Act.put]); (try simp only [List.setIfInBounds_toArray, List.set_cons_zero, List.set_cons_succ])
        refine wpAnyH_ready (rs := [5, 6]) (by kernel_rfl) (by simp) (AllReadyH.cons rfl (fun K hK => ?_) (AllReadyH.cons rfl (fun K hK => ?_) AllReadyH.nil))
        · go_simp
          refine (G2.out _).mono ?_
          rintro e vn ⟨rfl, hb⟩
          have hq := hS.trans (hb.mono hS.size)
          clear hS hb
          go_simp
          refine hK.out _ _ hq (fun hS => ?_)
          clear hK K hq
          rename World => v
          (try dsimp only [Act.put]); (try simp only [List.setIfInBounds_toArray, List.set_cons_zero, List.set_cons_succ])
          refine wpAnyH_ready (rs := [6]) (by kernel_rfl) (by simp) (AllReadyH.cons rfl (fun K hK => ?_) AllReadyH.nil)
          go_simp
          have ha := (H0.out.step hS).alloc #[I 0, I 0, I 0] 25
          have HGE := Lib.hid hS.size
          have hq := hS.alloc hS.size (.cells #[I 0, I 0, I 0] 25)
          clear hS
          generalize v.heap.size = ga at ha HGE ⊢
          generalize World.alloc v _ = va at ha hq ⊢
          have HA := Lib.hid ha
          clear ha
          refine hK.out _ _ hq (fun hS => ?_)
          clear hK K hq
          rename World => v
          (try dsimp only [Act.put]); (try simp only [List.setIfInBounds_toArray, List.set_cons_zero, List.set_cons_succ])
          refine wpAnyH_ready (rs := [7]) (by kernel_rfl) (by simp) (AllReadyH.cons rfl (fun K hK => ?_) AllReadyH.nil)
          rw [if_pos (by rfl)]
          refine wp_store_row 25 _ _ rfl ga #[I 25, I 0, I 0] rfl rfl 25 _ (HA.out.at 0 rfl) infoTn rfl (by simp [Value.oneCell']) ?_
          have hq := below_setRow hS (g := ga) HGE.out #[I 25, I 0, I 0]
          have hput := HA.out.put 0 rfl #[I 25, I 0, I 0]
          simp only [List.set_cons_succ, List.set_cons_zero] at hput
          generalize World.setRow _ ga _ = vs at hput hq ⊢
          have HC := Lib.hid hput
          clear hput
          refine hK.out _ _ hq (fun hS => ?_)
          clear hK K hq
          (try simp only [List.getElem_toArray, List.getElem_cons_succ, List.getElem_cons_zero])
          (try dsimp only [Act.put]); (try simp only [List.setIfInBounds_toArray, List.set_cons_zero, List.set_cons_succ])
          refine wpAnyH_done (by kernel_rfl) ?_ _
          go_wp2_with fail
          go_meet
          case rel => exact ⟨ga, rfl, HC.out⟩
        · go_simp
          have ha := (H0.out.step hS).alloc #[I 0, I 0, I 0] 25
          have HGE := Lib.hid hS.size
          have hq := hS.alloc hS.size (.cells #[I 0, I 0, I 0] 25)
          clear hS
          generalize v.heap.size = ga at ha HGE ⊢
          generalize World.alloc v _ = va at ha hq ⊢
          have HA := Lib.hid ha
          clear ha
          refine hK.out _ _ hq (fun hS => ?_)
          clear hK K hq
          rename World => v
          (try dsimp only [Act.put]); (try simp only [List.setIfInBounds_toArray, List.set_cons_zero, List.set_cons_succ])
          refine wpAnyH_ready (rs := [5]) (by kernel_rfl) (by simp) (AllReadyH.cons rfl (fun K hK => ?_) AllReadyH.nil)
          go_simp
          refine (G2.out _).mono ?_
          rintro e vn ⟨rfl, hb⟩
          have hq := hS.trans (hb.mono hS.size)
          have HA2 := Lib.hid (HA.out.step hb)
          clear HA
          have HA := HA2
          clear HA2
          clear hS hb
          go_simp
          refine hK.out _ _ hq (fun hS => ?_)
          clear hK K hq
          rename World => v
          (try dsimp only [Act.put]); (try simp only [List.setIfInBounds_toArray, List.set_cons_zero, List.set_cons_succ])
          refine wpAnyH_ready (rs := [7]) (by kernel_rfl) (by simp) (AllReadyH.cons rfl (fun K hK => ?_) AllReadyH.nil)
          rw [if_pos (by rfl)]
          refine wp_store_row 25 _ _ rfl ga #[I 25, I 0, I 0] rfl rfl 25 _ (HA.out.at 0 rfl) infoTn rfl (by simp [Value.oneCell']) ?_
          have hq := below_setRow hS (g := ga) HGE.out #[I 25, I 0, I 0]
          have hput := HA.out.put 0 rfl #[I 25, I 0, I 0]
          simp only [List.set_cons_succ, List.set_cons_zero] at hput
          generalize World.setRow _ ga _ = vs at hput hq ⊢
          have HC := Lib.hid hput
          clear hput
          refine hK.out _ _ hq (fun hS => ?_)
          clear hK K hq
          (try simp only [List.getElem_toArray, List.getElem_cons_succ, List.getElem_cons_zero])
          (try dsimp only [Act.put]); (try simp only [List.setIfInBounds_toArray, List.set_cons_zero, List.set_cons_succ])
          refine wpAnyH_done (by kernel_rfl) ?_ _
          go_wp2_with fail
          go_meet
          case rel => exact ⟨ga, rfl, HC.out⟩
      · go_simp
        have ha := (H0.out.step hS).alloc #[I 0, I 0, I 0] 25
        have HGE := Lib.hid hS.size
        have hq := hS.alloc hS.size (.cells #[I 0, I 0, I 0] 25)
        clear hS
        generalize v.heap.size = ga at ha HGE ⊢
        generalize World.alloc v _ = va at ha hq ⊢
        have HA := Lib.hid ha
        clear ha
        refine hK.out _ _ hq (fun hS => ?_)
        clear hK K hq
        rename World => v
        (try dsimp only [Act.put]); (try simp only [List.setIfInBounds_toArray, List.set_cons_zero, List.set_cons_succ])
        refine wpAnyH_ready (rs := [4]) (by kernel_rfl) (by simp) (AllReadyH.cons rfl (fun K hK => ?_) AllReadyH.nil)
        go_simp
        refine (G1.out _).mono ?_
        rintro e vn ⟨rfl, hb⟩
        have hq := hS.trans (hb.mono hS.size)
        have HA2 := Lib.hid (HA.out.step hb)
        clear HA
        have HA := HA2
        clear HA2
        clear hS hb
        go_simp
        refine hK.out _ _ hq (fun hS => ?_)
        clear hK K hq
        rename World => v
        (try dsimp only [Act.put]); (try simp only [List.setIfInBounds_toArray, List.set_cons_zero, List.set_cons_succ])
        refine wpAnyH_ready (rs := [5]) (by kernel_rfl) (by simp) (AllReadyH.cons rfl (fun K hK => ?_) AllReadyH.nil)
        go_simp
        refine (G2.out _).mono ?_
        rintro e vn ⟨rfl, hb⟩
        have hq := hS.trans (hb.mono hS.size)
        have HA2 := Lib.hid (HA.out.step hb)
        clear HA
        have HA := HA2
        clear HA2
        clear hS hb
        go_simp
        refine hK.out _ _ hq (fun hS => ?_)
        clear hK K hq
        rename World => v
        (try dsimp only [Act.put]); (try simp only [List.setIfInBounds_toArray, List.set_cons_zero, List.set_cons_succ])
        refine wpAnyH_ready (rs := [7]) (by kernel_rfl) (by simp) (AllReadyH.cons rfl (fun K hK => ?_) AllReadyH.nil)
        rw [if_pos (by rfl)]
        refine wp_store_row 25 _ _ rfl ga #[I 25, I 0, I 0] rfl rfl 25 _ (HA.out.at 0 rfl) infoTn rfl (by simp [Value.oneCell']) ?_
        have hq := below_setRow hS (g := ga) HGE.out #[I 25, I 0, I 0]
        have hput := HA.out.put 0 rfl #[I 25, I 0, I 0]
        simp only [List.set_cons_succ, List.set_cons_zero] at hput
        generalize World.setRow _ ga _ = vs at hput hq ⊢
        have HC := Lib.hid hput
        clear hput
        refine hK.out _ _ hq (fun hS => ?_)
        clear hK K hq
        (try simp only [List.getElem_toArray, List.getElem_cons_succ, List.getElem_cons_zero])
        (try dsimp only [Act.put]); (try simp only [List.setIfInBounds_toArray, List.set_cons_zero, List.set_cons_succ])
        refine wpAnyH_done (by kernel_rfl) ?_ _
        go_wp2_with fail
        go_meet
        case rel => exact ⟨ga, rfl, HC.out⟩
    · go_simp
      have ha := (H0.out.step hS).alloc #[I 0, I 0, I 0] 25
      have HGE := Lib.hid hS.size
      have hq := hS.alloc hS.size (.cells #[I 0, I 0, I 0] 25)
      clear hS
      generalize v.heap.size = ga at ha HGE ⊢
      generalize World.alloc v _ = va at ha hq ⊢
      have HA := Lib.hid ha
      clear ha
      refine hK.out _ _ hq (fun hS => ?_)
      clear hK K hq
      rename World => v
      (try dsimp only [Act.put]); (try simp only [List.setIfInBounds_toArray, List.set_cons_zero, List.set_cons_succ])
      refine wpAnyH_ready (rs := [3]) (by kernel_rfl) (by simp) (AllReadyH.cons rfl (fun K hK => ?_) AllReadyH.nil)
      go_simp
      refine (BG.out _).mono ?_
      rintro e vn ⟨rfl, hb⟩
      have hq := hS.trans (hb.mono hS.size)
      have HA2 := Lib.hid (HA.out.step hb)
      clear HA
      have HA := HA2
      clear HA2
      clear hS hb
      go_simp
      refine hK.out _ _ hq (fun hS => ?_)
      clear hK K hq
      rename World => v
      (try dsimp only [Act.put]); (try simp only [List.setIfInBounds_toArray, List.set_cons_zero, List.set_cons_succ])
      refine wpAnyH_ready (rs := [4]) (by kernel_rfl) (by simp) (AllReadyH.cons rfl (fun K hK => ?_) AllReadyH.nil)
      go_simp
      refine (G1.out _).mono ?_
      rintro e vn ⟨rfl, hb⟩
      have hq := hS.trans (hb.mono hS.size)
      have HA2 := Lib.hid (HA.out.step hb)
      clear HA
      have HA := HA2
      clear HA2
      clear hS hb
      go_simp
      refine hK.out _ _ hq (fun hS => ?_)
      clear hK K hq
      rename World => v
      (try dsimp only [Act.put]); (try simp only [List.setIfInBounds_toArray, List.set_cons_zero, List.set_cons_succ])
      refine wpAnyH_ready (rs := [5]) (by kernel_rfl) (by simp) (AllReadyH.cons rfl (fun K hK => ?_) AllReadyH.nil)
      go_simp
      refine (G2.out _).mono ?_
      rintro e vn ⟨rfl, hb⟩
      have hq := hS.trans (hb.mono hS.size)
      have HA2 := Lib.hid (HA.out.step hb)
      clear HA
      have HA := HA2
      clear HA2
      clear hS hb
      go_simp
      refine hK.out _ _ hq (fun hS => ?_)
      clear hK K hq
      rename World => v
      (try dsimp only [Act.put]); (try simp only [List.setIfInBounds_toArray, List.set_cons_zero, List.set_cons_succ])
      refine wpAnyH_ready (rs := [7]) (by kernel_rfl) (by simp) (AllReadyH.cons rfl (fun K hK => ?_) AllReadyH.nil)
      rw [if_pos (by rfl)]
      refine wp_store_row 25 _ _ rfl ga #[I 25, I 0, I 0] rfl rfl 25 _ (HA.out.at 0 rfl) infoTn rfl (by simp [Value.oneCell']) ?_
      have hq := below_setRow hS (g := ga) HGE.out #[I 25, I 0, I 0]
      have hput := HA.out.put 0 rfl #[I 25, I 0, I 0]
      simp only [List.set_cons_succ, List.set_cons_zero] at hput
      generalize World.setRow _ ga _ = vs at hput hq ⊢
      have HC := Lib.hid hput
      clear hput
      refine hK.out _ _ hq (fun hS => ?_)
      clear hK K hq
      (try simp only [List.getElem_toArray, List.getElem_cons_succ, List.getElem_cons_zero])
      (try dsimp only [Act.put]); (try simp only [List.setIfInBounds_toArray, List.set_cons_zero, List.set_cons_succ])
      refine wpAnyH_done (by kernel_rfl) ?_ _
      go_wp2_with fail
      go_meet
      case rel => exact ⟨ga, rfl, HC.out⟩
  case rest =>
  obtain ⟨g, rfl, hB⟩ := hcut
  rename World => wx
  have HB := Lib.hid hB
  clear hB
  have kg : wx.cell? ⟨g, 0, none⟩ = some (I 25) := HB.out.cell 0 0 rfl rfl
  go_wp2_with (first | (refine Row.wpList_load_g 23 _ rfl (by first | rfl | go_simp) ⟨gp, 0, none⟩ rfl p.cells _ (by have := Row.lies_of_block (HB.out.at 1 rfl); simpa using this) Try.underlying23 rfl infoP ?_) | (refine Row.wpList_load_g 25 _ rfl (by first | rfl | go_simp) ⟨g, 0, none⟩ rfl [I 25, I 0, I 0] _ (by have := Row.lies_of_block (HB.out.at 0 rfl); simpa using this) Try.underlying25 rfl infoTn ?_))
  refine (L1.out _).mono ?_
  rintro e wn ⟨rfl, hb⟩
  have HB2 := Lib.hid (HB.out.step hb)
  clear hb kg HB
  have HB := HB2
  clear HB2
  rename World => wx
  go_wp2_with (first | (refine Row.wpList_load_g 23 _ rfl (by first | rfl | go_simp) ⟨gp, 0, none⟩ rfl p.cells _ (by have := Row.lies_of_block (HB.out.at 1 rfl); simpa using this) Try.underlying23 rfl infoP ?_) | (refine Row.wpList_load_g 25 _ rfl (by first | rfl | go_simp) ⟨g, 0, none⟩ rfl [I 25, I 0, I 0] _ (by have := Row.lies_of_block (HB.out.at 0 rfl); simpa using this) Try.underlying25 rfl infoTn ?_))
  refine (L2.out _).mono ?_
  rintro e wn ⟨rfl, hb⟩
  have HB2 := Lib.hid (HB.out.step hb)
  clear hb HB
  have HB := HB2
  clear HB2
  rename World => wx
  go_wp2_with (first | (refine Row.wpList_load_g 23 _ rfl (by first | rfl | go_simp) ⟨gp, 0, none⟩ rfl p.cells _ (by have := Row.lies_of_block (HB.out.at 1 rfl); simpa using this) Try.underlying23 rfl infoP ?_) | (refine Row.wpList_load_g 25 _ rfl (by first | rfl | go_simp) ⟨g, 0, none⟩ rfl [I 25, I 0, I 0] _ (by have := Row.lies_of_block (HB.out.at 0 rfl); simpa using this) Try.underlying25 rfl infoTn ?_))
  refine (LI.out _).mono ?_
  rintro e wn ⟨rfl, hb⟩
  have HB2 := Lib.hid (HB.out.step hb)
  clear hb HB
  have HB := HB2
  clear HB2
  rename World => wx
  go_wp2
  go_ret
  exact ⟨rfl, HB.out.bel⟩
end Go.Proofs.Ytldmmobgmfllkaa.Gap
