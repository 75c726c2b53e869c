/- Stage 18: the statements' own examples; the cue of a number. -/
import Derived.Test.YtbpfknkbiaplpaaRu
import Derived.Test.YtbpfknkbiaplpaaPhe
import Derived.Test.YtbpfknkbiaplpaaPhs
namespace Go.Proofs.Ytbpfknkbiaplpaa.Ru
open Go Go.ChangeShapes Go.WideShapes Go.ChangeAt Go.RowKit
open Tab Flat TabArg QL
open May (infoP)
open Ped (ft cu idl Ft infoFt)
open Gap (lm lf gr Tn infoTn)
set_option linter.unusedVariables false
set_option linter.unusedSimpArgs false
set_option maxRecDepth 100000
def awP : Ph := ⟨true, 1, 0, 1, 1, 0, 10, 2, 0, 0, 0, false, false⟩
theorem builtP : Try.prog.built 23 [(0, .bool true), (1, I 1), (3, I 1), (4, I 1), (6, I 10), (7, I 2)] = some awP.cells.toArray := by kernel_rfl
theorem builtS : Try.prog.built 31 [(0, .bool true)] = some (Cu.cells ⟨true, false, false, false, false, false, false, false⟩).toArray := by kernel_rfl
theorem builtE : Try.prog.built 31 [(1, .bool true)] = some (Cu.cells ⟨false, true, false, false, false, false, false, false⟩).toArray := by kernel_rfl
theorem builtH : Try.prog.built 31 [(4, .bool true), (5, .bool true)] = some (Cu.cells ⟨false, false, false, false, true, true, false, false⟩).toArray := by kernel_rfl
theorem builtN : Try.prog.built 31 [] = some (Cu.cells ⟨false, false, false, false, false, false, false, false⟩).toArray := by kernel_rfl
theorem builtSP (b : Bool) : Try.prog.built 31 [(0, .bool true), (3, .bool b)] = some (Cu.cells ⟨true, false, false, b, false, false, false, false⟩).toArray := by kernel_rfl
theorem builtPH (b : Bool) : Try.prog.built 31 [(4, .bool true), (2, .bool b)] = some (Cu.cells ⟨false, false, b, false, true, false, false, false⟩).toArray := by kernel_rfl
theorem builtL (b d e : Bool) : Try.prog.built 31 [(4, .bool true), (2, .bool b), (3, .bool d), (5, .bool e)] = some (Cu.cells ⟨false, false, b, d, true, e, false, false⟩).toArray := by kernel_rfl
theorem builtC (a b c d e g h i : Bool) : Try.prog.built 31 [(2, .bool a), (3, .bool b), (4, .bool c), (5, .bool d), (6, .bool e), (7, .bool g), (0, .bool h), (1, .bool i)] = some (Cu.cells ⟨h, i, a, b, c, d, e, g⟩).toArray := by kernel_rfl
theorem one_cu (c : Cu) : c.cells.toArray.all (·.oneCell') = true := by simp [Cu.cells, Value.oneCell']
theorem wpList_buildG {P : Program} {ops : Array Oper} {Q : Exit → Act → World → Prop} {rest : List Oper} {o : Oper} {a : Act} {w : World} (hw : Region.wanted o (yielded ops a.tmps) = true) (t : TypeId) (parts : List (Nat × Operand)) (ho : o.op = .build t parts.toArray) (cells : Array Value) (vs : List (Nat × Value)) (hv : parts.map (fun (i, x) => (i, a.eval x)) = vs) (hb : P.built t vs = some cells)
    (h : wpList P ops Q rest (a.put o.dst (.agg cells)) w) : wpList P ops Q (o :: rest) a w :=
  BigFrame.wpList_want hw fun _ hK => by
    subst hv
    unfold Oper.wp execOp
    have hb' : P.built t (parts.toArray.map fun (i, x) => (i, a.eval x)).toList = some cells := by simpa using hb
    simp only [ho, Sem.run_bind, run_build w t _ _ hb', Result.andThen_ok, Sem.run_pure]
    exact hK _ _ h
set_option maxHeartbeats 8000000 in
theorem awake_any (w : World) : Calls Try.prog 10 #[] w fun e w' => e = .returned (.bool true) ∧ Below w.heap.size w w' := by
  obtain ⟨p, hp⟩ : ∃ p : Ph, p = awP := ⟨_, rfl⟩
  have hb := builtP
  rw [← hp] at hb
  have HBP := Lib.hid hb
  clear hb
  obtain ⟨r0, hr0⟩ : ∃ r, bgn p = r := ⟨_, rfl⟩
  obtain ⟨r1, hr1⟩ : ∃ r : Ru, r = ⟨1, 1, 0, 0, 0, 0, 0, false, false, 1, 0, 0⟩ := ⟨_, rfl⟩
  obtain ⟨y1, hy1⟩ : ∃ r : Ru, r = ⟨2, 1, 0, 0, 0, 0, 0, false, false, 1, 0, 0⟩ := ⟨_, rfl⟩
  have BG : Hid (∀ W, Calls Try.prog 15 #[.agg p.cells.toArray] W fun e w' => e = .returned (.agg r0.cells.toArray) ∧ Below W.heap.size W w') := Lib.hid (fun W => by rw [← hr0]; exact begin_any p W)
  have S1 : Hid (∀ W, Calls Try.prog 11 #[.agg p.cells.toArray, .agg r0.cells.toArray, .agg (Cu.cells ⟨true, false, false, false, false, false, false, false⟩).toArray] W fun e w' => e = .returned (.agg r1.cells.toArray) ∧ Below W.heap.size W w') := Lib.hid (fun W => by have := step_any p r0 ⟨true, false, false, false, false, false, false, false⟩ W; rwa [show stp p r0 ⟨true, false, false, false, false, false, false, false⟩ = r1 by rw [← hr0, hr1, hp]; decide +kernel] at this)
  have S2 : Hid (∀ W, Calls Try.prog 11 #[.agg p.cells.toArray, .agg r1.cells.toArray, .agg (Cu.cells ⟨false, true, false, false, false, false, false, false⟩).toArray] W fun e w' => e = .returned (.agg y1.cells.toArray) ∧ Below W.heap.size W w') := Lib.hid (fun W => by have := step_any p r1 ⟨false, true, false, false, false, false, false, false⟩ W; rwa [show stp p r1 ⟨false, true, false, false, false, false, false, false⟩ = y1 by rw [hr1, hy1, hp]; decide +kernel] at this)
  have HE : Hid (∀ W, Calls Try.prog 13 #[.agg p.cells.toArray, .agg r1.cells.toArray, .agg (Cu.cells ⟨false, false, false, false, true, true, false, false⟩).toArray] W fun e w' => e = .returned (.bool true) ∧ Below W.heap.size W w') := Lib.hid (fun W => by have := held_any p r1 ⟨false, false, false, false, true, true, false, false⟩ W; rwa [show hld p r1 ⟨false, false, false, false, true, true, false, false⟩ = true by rw [hr1, hp]; decide +kernel] at this)
  have K0 : Hid (r1.co = 1) := Lib.hid (by rw [hr1])
  have K1 : Hid (y1.co = 2) := Lib.hid (by rw [hy1])
  have K2 : Hid (y1.tm = 1) := Lib.hid (by rw [hy1])
  clear hp hr0 hr1 hy1
  go_enter Try.func10, Try.ntmps10
  go_upto_region 2 with (first | (refine wpList_build rfl 23 [(0, .const (.bool true)), (1, .const (I 1)), (3, .const (I 1)), (4, .const (I 1)), (6, .const (I 10)), (7, .const (I 2))] rfl p.cells.toArray _ (by rfl) HBP.out ?_) | (refine Row.wpList_store_new rfl 23 _ _ rfl _ _ p.cells.toArray rfl rfl rfl infoP rfl (Ph.one _) ?_))
  have hn := (Blk.Bks.nil w).alloc p.cells.toArray 23
  generalize World.alloc w _ = v1 at hn ⊢
  generalize w.heap.size = gp at hn ⊢
  have H1 := Lib.hid hn
  clear hn HBP
  (try dsimp only [Act.put]); (try simp only [List.setIfInBounds_toArray, List.set_cons_zero, List.set_cons_succ])
  go_cut [2] from 5 (fun tx wx => ∃ g, tx = .pointer (some ⟨g, 0, none⟩) ∧ Blk.Bks w ((g, r1.cells.toArray, 29) :: [(gp, p.cells.toArray, 23)]) wx)
  case first =>
    refine wp_region_held (S := fun w' => Below v1.heap.size v1 w') (by kernel_rfl) ?_
    have hS : Below v1.heap.size v1 { v1 with drawn := v1.drawn + 1 } := (Below.refl _ _).drew
    generalize ({ v1 with drawn := v1.drawn + 1 } : World) = v at hS ⊢
    refine Held.take_load (i := 0) (some 5) rfl 23 (.tmp 1) ⟨gp, 0, none⟩ p.cells _ rfl rfl (by kernel_rfl) (by kernel_rfl) (by kernel_rfl) (fun _ _ _ h => h) (by rfl) hS rfl (fun w' hw' => seg (H1.out.step hw') 0 0 rfl _ rfl) Try.underlying23 rfl infoP ?_
    (try dsimp only [Act.put]); (try simp only [List.setIfInBounds_toArray, List.set_cons_zero, List.set_cons_succ])
    refine Held.take_load (i := 1) (some 6) rfl 23 (.tmp 1) ⟨gp, 0, none⟩ p.cells _ rfl rfl (by kernel_rfl) (by kernel_rfl) (by kernel_rfl) (fun _ _ _ h => h) (by rfl) hS rfl (fun w' hw' => seg (H1.out.step hw') 0 0 rfl _ rfl) Try.underlying23 rfl infoP ?_
    (try dsimp only [Act.put]); (try simp only [List.setIfInBounds_toArray, List.set_cons_zero, List.set_cons_succ])
    refine Held.take_build (i := 3) (some 8) rfl 31 #[(0, .const (.bool true))] (Cu.cells ⟨true, false, false, false, false, false, false, false⟩).toArray rfl rfl (by kernel_rfl) (by kernel_rfl) (by kernel_rfl) (fun _ _ _ h => h) (by rfl) hS (by have h := builtS; first | (simp [Act.eval]; exact h) | (go_simp; exact h)) ?_
    (try dsimp only [Act.put]); (try simp only [List.setIfInBounds_toArray, List.set_cons_zero, List.set_cons_succ])
    refine wpAnyH_ready (rs := [2, 5]) (by kernel_rfl) (by simp) (AllReadyH.cons rfl (fun K hK => ?_) (AllReadyH.cons rfl (fun K hK => ?_) AllReadyH.nil))
    · go_simp
      refine (BG.out _).mono ?_
      rintro e vn ⟨rfl, hb⟩
      have hq := hS.trans (hb.mono hS.size)
      clear hS hb
      go_simp
      refine hK.out _ _ hq (fun hS => ?_)
      clear hK K hq
      rename World => v
      (try dsimp only [Act.put]); (try simp only [List.setIfInBounds_toArray, List.set_cons_zero, List.set_cons_succ])
      refine wpAnyH_ready (rs := [4, 5]) (by kernel_rfl) (by simp) (AllReadyH.cons rfl (fun K hK => ?_) (AllReadyH.cons rfl (fun K hK => ?_) AllReadyH.nil))
      · go_simp
        refine (S1.out _).mono ?_
        rintro e vn ⟨rfl, hb⟩
        have hq := hS.trans (hb.mono hS.size)
        clear hS hb
        go_simp
        refine hK.out _ _ hq (fun hS => ?_)
        clear hK K hq
        rename World => v
        (try dsimp only [Act.put]); (try simp only [List.setIfInBounds_toArray, List.set_cons_zero, List.set_cons_succ])
        refine wpAnyH_ready (rs := [5]) (by kernel_rfl) (by simp) (AllReadyH.cons rfl (fun K hK => ?_) AllReadyH.nil)
        go_simp
        have ha := (H1.out.step hS).alloc #[I 0, I 0, I 0, I 0, I 0, I 0, I 0, .bool false, .bool false, I 0, I 0, I 0] 29
        have HGE := Lib.hid hS.size
        have hq := hS.alloc hS.size (.cells #[I 0, I 0, I 0, I 0, I 0, I 0, I 0, .bool false, .bool false, I 0, I 0, I 0] 29)
        clear hS
        generalize v.heap.size = ga at ha HGE ⊢
        generalize World.alloc v _ = va at ha hq ⊢
        have HA := Lib.hid ha
        clear ha
        refine hK.out _ _ hq (fun hS => ?_)
        clear hK K hq
        rename World => v
        (try dsimp only [Act.put]); (try simp only [List.setIfInBounds_toArray, List.set_cons_zero, List.set_cons_succ])
        refine wpAnyH_ready (rs := [6]) (by kernel_rfl) (by simp) (AllReadyH.cons rfl (fun K hK => ?_) AllReadyH.nil)
        rw [if_pos (by rfl)]
        refine wp_store_row 29 _ _ rfl ga r1.cells.toArray rfl rfl 29 _ (HA.out.at 0 rfl) infoRu rfl (one_ru _) ?_
        have hq := below_setRow hS (g := ga) HGE.out r1.cells.toArray
        have hput := HA.out.put 0 rfl r1.cells.toArray
        simp only [List.set_cons_succ, List.set_cons_zero] at hput
        generalize World.setRow _ ga _ = vs at hput hq ⊢
        have HC := Lib.hid hput
        clear hput
        refine hK.out _ _ hq (fun hS => ?_)
        clear hK K hq
        (try simp only [List.getElem_toArray, List.getElem_cons_succ, List.getElem_cons_zero])
        (try dsimp only [Act.put]); (try simp only [List.setIfInBounds_toArray, List.set_cons_zero, List.set_cons_succ])
        refine wpAnyH_done (by kernel_rfl) ?_ _
        go_wp2_with fail
        go_meet
        case rel => exact ⟨ga, rfl, HC.out⟩
      · go_simp
        have ha := (H1.out.step hS).alloc #[I 0, I 0, I 0, I 0, I 0, I 0, I 0, .bool false, .bool false, I 0, I 0, I 0] 29
        have HGE := Lib.hid hS.size
        have hq := hS.alloc hS.size (.cells #[I 0, I 0, I 0, I 0, I 0, I 0, I 0, .bool false, .bool false, I 0, I 0, I 0] 29)
        clear hS
        generalize v.heap.size = ga at ha HGE ⊢
        generalize World.alloc v _ = va at ha hq ⊢
        have HA := Lib.hid ha
        clear ha
        refine hK.out _ _ hq (fun hS => ?_)
        clear hK K hq
        rename World => v
        (try dsimp only [Act.put]); (try simp only [List.setIfInBounds_toArray, List.set_cons_zero, List.set_cons_succ])
        refine wpAnyH_ready (rs := [4]) (by kernel_rfl) (by simp) (AllReadyH.cons rfl (fun K hK => ?_) AllReadyH.nil)
        go_simp
        refine (S1.out _).mono ?_
        rintro e vn ⟨rfl, hb⟩
        have hq := hS.trans (hb.mono hS.size)
        have HA2 := Lib.hid (HA.out.step hb)
        clear HA
        have HA := HA2
        clear HA2
        clear hS hb
        go_simp
        refine hK.out _ _ hq (fun hS => ?_)
        clear hK K hq
        rename World => v
        (try dsimp only [Act.put]); (try simp only [List.setIfInBounds_toArray, List.set_cons_zero, List.set_cons_succ])
        refine wpAnyH_ready (rs := [6]) (by kernel_rfl) (by simp) (AllReadyH.cons rfl (fun K hK => ?_) AllReadyH.nil)
        rw [if_pos (by rfl)]
        refine wp_store_row 29 _ _ rfl ga r1.cells.toArray rfl rfl 29 _ (HA.out.at 0 rfl) infoRu rfl (one_ru _) ?_
        have hq := below_setRow hS (g := ga) HGE.out r1.cells.toArray
        have hput := HA.out.put 0 rfl r1.cells.toArray
        simp only [List.set_cons_succ, List.set_cons_zero] at hput
        generalize World.setRow _ ga _ = vs at hput hq ⊢
        have HC := Lib.hid hput
        clear hput
        refine hK.out _ _ hq (fun hS => ?_)
        clear hK K hq
        (try simp only [List.getElem_toArray, List.getElem_cons_succ, List.getElem_cons_zero])
        (try dsimp only [Act.put]); (try simp only [List.setIfInBounds_toArray, List.set_cons_zero, List.set_cons_succ])
        refine wpAnyH_done (by kernel_rfl) ?_ _
        go_wp2_with fail
        go_meet
        case rel => exact ⟨ga, rfl, HC.out⟩
    · go_simp
      have ha := (H1.out.step hS).alloc #[I 0, I 0, I 0, I 0, I 0, I 0, I 0, .bool false, .bool false, I 0, I 0, I 0] 29
      have HGE := Lib.hid hS.size
      have hq := hS.alloc hS.size (.cells #[I 0, I 0, I 0, I 0, I 0, I 0, I 0, .bool false, .bool false, I 0, I 0, I 0] 29)
      clear hS
      generalize v.heap.size = ga at ha HGE ⊢
      generalize World.alloc v _ = va at ha hq ⊢
      have HA := Lib.hid ha
      clear ha
      refine hK.out _ _ hq (fun hS => ?_)
      clear hK K hq
      rename World => v
      (try dsimp only [Act.put]); (try simp only [List.setIfInBounds_toArray, List.set_cons_zero, List.set_cons_succ])
      refine wpAnyH_ready (rs := [2]) (by kernel_rfl) (by simp) (AllReadyH.cons rfl (fun K hK => ?_) AllReadyH.nil)
      go_simp
      refine (BG.out _).mono ?_
      rintro e vn ⟨rfl, hb⟩
      have hq := hS.trans (hb.mono hS.size)
      have HA2 := Lib.hid (HA.out.step hb)
      clear HA
      have HA := HA2
      clear HA2
      clear hS hb
      go_simp
      refine hK.out _ _ hq (fun hS => ?_)
      clear hK K hq
      rename World => v
      (try dsimp only [Act.put]); (try simp only [List.setIfInBounds_toArray, List.set_cons_zero, List.set_cons_succ])
      refine wpAnyH_ready (rs := [4]) (by kernel_rfl) (by simp) (AllReadyH.cons rfl (fun K hK => ?_) AllReadyH.nil)
      go_simp
      refine (S1.out _).mono ?_
      rintro e vn ⟨rfl, hb⟩
      have hq := hS.trans (hb.mono hS.size)
      have HA2 := Lib.hid (HA.out.step hb)
      clear HA
      have HA := HA2
      clear HA2
      clear hS hb
      go_simp
      refine hK.out _ _ hq (fun hS => ?_)
      clear hK K hq
      rename World => v
      (try dsimp only [Act.put]); (try simp only [List.setIfInBounds_toArray, List.set_cons_zero, List.set_cons_succ])
      refine wpAnyH_ready (rs := [6]) (by kernel_rfl) (by simp) (AllReadyH.cons rfl (fun K hK => ?_) AllReadyH.nil)
      rw [if_pos (by rfl)]
      refine wp_store_row 29 _ _ rfl ga r1.cells.toArray rfl rfl 29 _ (HA.out.at 0 rfl) infoRu rfl (one_ru _) ?_
      have hq := below_setRow hS (g := ga) HGE.out r1.cells.toArray
      have hput := HA.out.put 0 rfl r1.cells.toArray
      simp only [List.set_cons_succ, List.set_cons_zero] at hput
      generalize World.setRow _ ga _ = vs at hput hq ⊢
      have HC := Lib.hid hput
      clear hput
      refine hK.out _ _ hq (fun hS => ?_)
      clear hK K hq
      (try simp only [List.getElem_toArray, List.getElem_cons_succ, List.getElem_cons_zero])
      (try dsimp only [Act.put]); (try simp only [List.setIfInBounds_toArray, List.set_cons_zero, List.set_cons_succ])
      refine wpAnyH_done (by kernel_rfl) ?_ _
      go_wp2_with fail
      go_meet
      case rel => exact ⟨ga, rfl, HC.out⟩
  case rest =>
  obtain ⟨gr, rfl, hcut⟩ := hcut
  have HW := Lib.hid hcut
  clear hcut
  rename World => wx
  have H3 := HW
  clear HW H1
  go_wp2_with (first | (refine Row.wpList_load_g 23 _ rfl (by first | rfl | (go_simp; done) | fail) ⟨gp, 0, none⟩ rfl p.cells _ (seg H3.out 1 0 rfl _ rfl) Try.underlying23 rfl infoP ?_) | (refine Row.wpList_load_g 29 _ rfl (by first | rfl | (go_simp; done) | fail) ⟨gr, 0, none⟩ rfl r1.cells _ (seg H3.out 0 0 rfl _ rfl) Try.underlying29 rfl infoRu ?_) | (refine wpList_build rfl 31 [(1, .const (.bool true))] rfl (Cu.cells ⟨false, true, false, false, false, false, false, false⟩).toArray _ (by rfl) (builtE) ?_))
  refine (S2.out _).mono ?_
  rintro e v4 ⟨rfl, bc⟩
  have H4 := Lib.hid (H3.out.step bc)
  clear bc
  go_upto_region 4 with (refine Row.wpList_store_new rfl 29 _ _ rfl _ _ y1.cells.toArray rfl rfl rfl infoRu rfl (one_ru _) ?_)
  have hn := H4.out.alloc y1.cells.toArray 29
  generalize World.alloc v4 _ = v5 at hn ⊢
  generalize v4.heap.size = gy at hn ⊢
  have H5 := Lib.hid hn
  clear hn
  clear H3 H4
  have k0 : v5.cell? ⟨gr, 0, none⟩ = some (I r1.co) := H5.out.cell 1 0 rfl rfl
  have k1 : v5.cell? ⟨gy, 0, none⟩ = some (I y1.co) := H5.out.cell 0 0 rfl rfl
  have k2 : v5.cell? ⟨gy, 1, none⟩ = some (I y1.tm) := H5.out.cell 0 1 rfl rfl
  rw [K0.out] at k0
  rw [K1.out] at k1
  rw [K2.out] at k2
  go_wp2_with (first | (refine Row.wpList_load_g 23 _ rfl (by first | rfl | (go_simp; done) | fail) ⟨gp, 0, none⟩ rfl p.cells _ (seg H5.out 2 0 rfl _ rfl) Try.underlying23 rfl infoP ?_) | (refine Row.wpList_load_g 29 _ rfl (by first | rfl | (go_simp; done) | fail) ⟨gr, 0, none⟩ rfl r1.cells _ (seg H5.out 1 0 rfl _ rfl) Try.underlying29 rfl infoRu ?_) | (refine wpList_buildG (by first | rfl | (go_simp; done) | fail) 31 [(4, .const (.bool true)), (5, .const (.bool true))] rfl (Cu.cells ⟨false, false, false, false, true, true, false, false⟩).toArray _ (by rfl) (builtH) ?_))
  refine (HE.out _).mono ?_
  rintro e v6 ⟨rfl, b6⟩
  go_wp2
  go_ret
  exact ⟨rfl, (H5.out.step b6).bel⟩
end Go.Proofs.Ytbpfknkbiaplpaa.Ru
