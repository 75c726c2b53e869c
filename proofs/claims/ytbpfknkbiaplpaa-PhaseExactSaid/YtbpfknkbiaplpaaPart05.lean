/- 7 texts in one file, in build order. -/
import Derived.Test.YtbpfknkbiaplpaaPart02
import Derived.Test.YtbpfknkbiaplpaaPart03
import Derived.Test.YtbpfknkbiaplpaaPart04
import Derived.Test.YtbpfknkbiaplpaaPart01
import Derived.Below
import Derived.Laws.BitsLemmas
import Derived.Test.YtbpfknkbiaplpaaRows
import Derived.OwnWalk
import Derived.WalkKit
import Derived.ProofKit
import Derived.IntWalk
import Derived.Lib.Hide
import Derived.LoopTactic
import Derived.BigQuiet
import Derived.Deep.QuietTactic
import Derived.Great.BuildSlice
set_option linter.unusedVariables false
set_option linter.unusedSimpArgs false
set_option linter.unusedSectionVars false
set_option maxHeartbeats 8000000
set_option maxRecDepth 100000
namespace Go.Proofs.Ytbpfknkbiaplpaa
namespace Ru
open Go Go.ChangeShapes Go.WideShapes Go.ChangeAt Go.RowKit
open Tab Flat TabArg QL
open May (infoP)
open Ped (ft cu idl Ft infoFt)
open Gap (lm lf gr Tn infoTn)
def awP : Ph := ⟨true, 1, 0, 1, 1, 0, 10, 2, 0, 0, 0, false, false⟩
theorem builtP : Try.prog.built 23 [(0, .bool true), (1, I 1), (3, I 1), (4, I 1), (6, I 10), (7, I 2)] = some awP.cells.toArray := by kernel_rfl
theorem builtS : Try.prog.built 31 [(0, .bool true)] = some (Cu.cells ⟨true, false, false, false, false, false, false, false⟩).toArray := by kernel_rfl
theorem builtE : Try.prog.built 31 [(1, .bool true)] = some (Cu.cells ⟨false, true, false, false, false, false, false, false⟩).toArray := by kernel_rfl
theorem builtH : Try.prog.built 31 [(4, .bool true), (5, .bool true)] = some (Cu.cells ⟨false, false, false, false, true, true, false, false⟩).toArray := by kernel_rfl
theorem one_cu (c : Cu) : c.cells.toArray.all (·.oneCell') = true := by simp [Cu.cells, Value.oneCell']
theorem wpList_buildG {P : Program} {ops : Array Oper} {Q : Exit → Act → World → Prop} {rest : List Oper} {o : Oper} {a : Act} {w : World} (hw : Region.wanted o (yielded ops a.tmps) = true) (t : TypeId) (parts : List (Nat × Operand)) (ho : o.op = .build t parts.toArray) (cells : Array Value) (vs : List (Nat × Value)) (hv : parts.map (fun (i, x) => (i, a.eval x)) = vs) (hb : P.built t vs = some cells)
    (h : wpList P ops Q rest (a.put o.dst (.agg cells)) w) : wpList P ops Q (o :: rest) a w :=
  BigFrame.wpList_want hw fun _ hK => by
    subst hv
    unfold Oper.wp execOp
    have hb' : P.built t (parts.toArray.map fun (i, x) => (i, a.eval x)).toList = some cells := by simpa using hb
    simp only [ho, Sem.run_bind, run_build w t _ _ hb', Result.andThen_ok, Sem.run_pure]
    exact hK _ _ h
theorem awake_any (w : World) : Calls Try.prog 10 #[] w fun e w' => e = .returned (.bool true) ∧ Below w.heap.size w w' := by
  obtain ⟨p, hp⟩ : ∃ p : Ph, p = awP := ⟨_, rfl⟩
  have hb := builtP
  rw [← hp] at hb
  have HBP := Lib.hid hb
  clear hb
  obtain ⟨r0, hr0⟩ : ∃ r, bgn p = r := ⟨_, rfl⟩
  obtain ⟨r1, hr1⟩ : ∃ r : Ru, r = ⟨1, 1, 0, 0, 0, 0, 0, false, false, 1, 0, 0⟩ := ⟨_, rfl⟩
  obtain ⟨y1, hy1⟩ : ∃ r : Ru, r = ⟨2, 1, 0, 0, 0, 0, 0, false, false, 1, 0, 0⟩ := ⟨_, rfl⟩
  have BG : Hid (∀ W, Calls Try.prog 15 #[.agg p.cells.toArray] W fun e w' => e = .returned (.agg r0.cells.toArray) ∧ Below W.heap.size W w') := Lib.hid (fun W => by rw [← hr0]; exact begin_any p W)
  have S1 : Hid (∀ W, Calls Try.prog 11 #[.agg p.cells.toArray, .agg r0.cells.toArray, .agg (Cu.cells ⟨true, false, false, false, false, false, false, false⟩).toArray] W fun e w' => e = .returned (.agg r1.cells.toArray) ∧ Below W.heap.size W w') := Lib.hid (fun W => by have := step_any p r0 ⟨true, false, false, false, false, false, false, false⟩ W; rwa [show stp p r0 ⟨true, false, false, false, false, false, false, false⟩ = r1 by rw [← hr0, hr1, hp]; decide +kernel] at this)
  have S2 : Hid (∀ W, Calls Try.prog 11 #[.agg p.cells.toArray, .agg r1.cells.toArray, .agg (Cu.cells ⟨false, true, false, false, false, false, false, false⟩).toArray] W fun e w' => e = .returned (.agg y1.cells.toArray) ∧ Below W.heap.size W w') := Lib.hid (fun W => by have := step_any p r1 ⟨false, true, false, false, false, false, false, false⟩ W; rwa [show stp p r1 ⟨false, true, false, false, false, false, false, false⟩ = y1 by rw [hr1, hy1, hp]; decide +kernel] at this)
  have HE : Hid (∀ W, Calls Try.prog 13 #[.agg p.cells.toArray, .agg r1.cells.toArray, .agg (Cu.cells ⟨false, false, false, false, true, true, false, false⟩).toArray] W fun e w' => e = .returned (.bool true) ∧ Below W.heap.size W w') := Lib.hid (fun W => by have := held_any p r1 ⟨false, false, false, false, true, true, false, false⟩ W; rwa [show hld p r1 ⟨false, false, false, false, true, true, false, false⟩ = true by rw [hr1, hp]; decide +kernel] at this)
  have K0 : Hid (r1.co = 1) := Lib.hid (by rw [hr1])
  have K1 : Hid (y1.co = 2) := Lib.hid (by rw [hy1])
  have K2 : Hid (y1.tm = 1) := Lib.hid (by rw [hy1])
  clear hp hr0 hr1 hy1
  go_enter Try.func10, Try.ntmps10
  go_upto_region 2 with (first | (refine wpList_build rfl 23 [(0, .const (.bool true)), (1, .const (I 1)), (3, .const (I 1)), (4, .const (I 1)), (6, .const (I 10)), (7, .const (I 2))] rfl p.cells.toArray _ (by rfl) HBP.out ?_) | (refine Row.wpList_store_new rfl 23 _ _ rfl _ _ p.cells.toArray rfl rfl rfl infoP rfl (Ph.one _) ?_))
  have hn := (Blk.Bks.nil w).alloc p.cells.toArray 23
  generalize World.alloc w _ = v1 at hn ⊢
  generalize w.heap.size = gp at hn ⊢
  have H1 := Lib.hid hn
  clear hn HBP
  (try dsimp only [Act.put]); (try simp only [List.setIfInBounds_toArray, List.set_cons_zero, List.set_cons_succ])
  go_cut [2] from 5 (fun tx wx => ∃ g, tx = .pointer (some ⟨g, 0, none⟩) ∧ Blk.Bks w ((g, r1.cells.toArray, 29) :: [(gp, p.cells.toArray, 23)]) wx)
  case first =>
    refine wp_region_held (S := fun w' => Below v1.heap.size v1 w') (by kernel_rfl) ?_
    have hS : Below v1.heap.size v1 { v1 with drawn := v1.drawn + 1 } := (Below.refl _ _).drew
    generalize ({ v1 with drawn := v1.drawn + 1 } : World) = v at hS ⊢
    refine Held.take_load (i := 0) (some 5) rfl 23 (.tmp 1) ⟨gp, 0, none⟩ p.cells _ rfl rfl (by kernel_rfl) (by kernel_rfl) (by kernel_rfl) (fun _ _ _ h => h) (by rfl) hS rfl (fun w' hw' => seg (H1.out.step hw') 0 0 rfl _ rfl) Try.underlying23 rfl infoP ?_
    (try dsimp only [Act.put]); (try simp only [List.setIfInBounds_toArray, List.set_cons_zero, List.set_cons_succ])
    refine Held.take_load (i := 1) (some 6) rfl 23 (.tmp 1) ⟨gp, 0, none⟩ p.cells _ rfl rfl (by kernel_rfl) (by kernel_rfl) (by kernel_rfl) (fun _ _ _ h => h) (by rfl) hS rfl (fun w' hw' => seg (H1.out.step hw') 0 0 rfl _ rfl) Try.underlying23 rfl infoP ?_
    (try dsimp only [Act.put]); (try simp only [List.setIfInBounds_toArray, List.set_cons_zero, List.set_cons_succ])
    refine Held.take_build (i := 3) (some 8) rfl 31 #[(0, .const (.bool true))] (Cu.cells ⟨true, false, false, false, false, false, false, false⟩).toArray rfl rfl (by kernel_rfl) (by kernel_rfl) (by kernel_rfl) (fun _ _ _ h => h) (by rfl) hS (by have h := builtS; first | (simp [Act.eval]; exact h) | (go_simp; exact h)) ?_
    (try dsimp only [Act.put]); (try simp only [List.setIfInBounds_toArray, List.set_cons_zero, List.set_cons_succ])
    refine wpAnyH_ready (rs := [2, 5]) (by kernel_rfl) (by simp) (AllReadyH.cons rfl (fun K hK => ?_) (AllReadyH.cons rfl (fun K hK => ?_) AllReadyH.nil))
    · go_simp
      refine (BG.out _).mono ?_
      rintro e vn ⟨rfl, hb⟩
      have hq := hS.trans (hb.mono hS.size)
      clear hS hb
      go_simp
      refine hK.out _ _ hq (fun hS => ?_)
      clear hK K hq
      rename World => v
      (try dsimp only [Act.put]); (try simp only [List.setIfInBounds_toArray, List.set_cons_zero, List.set_cons_succ])
      refine wpAnyH_ready (rs := [4, 5]) (by kernel_rfl) (by simp) (AllReadyH.cons rfl (fun K hK => ?_) (AllReadyH.cons rfl (fun K hK => ?_) AllReadyH.nil))
      · go_simp
        refine (S1.out _).mono ?_
        rintro e vn ⟨rfl, hb⟩
        have hq := hS.trans (hb.mono hS.size)
        clear hS hb
        go_simp
        refine hK.out _ _ hq (fun hS => ?_)
        clear hK K hq
        rename World => v
        (try dsimp only [Act.put]); (try simp only [List.setIfInBounds_toArray, List.set_cons_zero, List.set_cons_succ])
        refine wpAnyH_ready (rs := [5]) (by kernel_rfl) (by simp) (AllReadyH.cons rfl (fun K hK => ?_) AllReadyH.nil)
        go_simp
        have ha := (H1.out.step hS).alloc #[I 0, I 0, I 0, I 0, I 0, I 0, I 0, .bool false, .bool false, I 0, I 0, I 0] 29
        have HGE := Lib.hid hS.size
        have hq := hS.alloc hS.size (.cells #[I 0, I 0, I 0, I 0, I 0, I 0, I 0, .bool false, .bool false, I 0, I 0, I 0] 29)
        clear hS
        generalize v.heap.size = ga at ha HGE ⊢
        generalize World.alloc v _ = va at ha hq ⊢
        have HA := Lib.hid ha
        clear ha
        refine hK.out _ _ hq (fun hS => ?_)
        clear hK K hq
        rename World => v
        (try dsimp only [Act.put]); (try simp only [List.setIfInBounds_toArray, List.set_cons_zero, List.set_cons_succ])
        refine wpAnyH_ready (rs := [6]) (by kernel_rfl) (by simp) (AllReadyH.cons rfl (fun K hK => ?_) AllReadyH.nil)
        rw [if_pos (by rfl)]
        refine wp_store_row 29 _ _ rfl ga r1.cells.toArray rfl rfl 29 _ (HA.out.at 0 rfl) infoRu rfl (one_ru _) ?_
        have hq := below_setRow hS (g := ga) HGE.out r1.cells.toArray
        have hput := HA.out.put 0 rfl r1.cells.toArray
        simp only [List.set_cons_succ, List.set_cons_zero] at hput
        generalize World.setRow _ ga _ = vs at hput hq ⊢
        have HC := Lib.hid hput
        clear hput
        refine hK.out _ _ hq (fun hS => ?_)
        clear hK K hq
        (try simp only [List.getElem_toArray, List.getElem_cons_succ, List.getElem_cons_zero])
        (try dsimp only [Act.put]); (try simp only [List.setIfInBounds_toArray, List.set_cons_zero, List.set_cons_succ])
        refine wpAnyH_done (by kernel_rfl) ?_ _
        go_wp2_with fail
        go_meet
        case rel => exact ⟨ga, rfl, HC.out⟩
      · go_simp
        have ha := (H1.out.step hS).alloc #[I 0, I 0, I 0, I 0, I 0, I 0, I 0, .bool false, .bool false, I 0, I 0, I 0] 29
        have HGE := Lib.hid hS.size
        have hq := hS.alloc hS.size (.cells #[I 0, I 0, I 0, I 0, I 0, I 0, I 0, .bool false, .bool false, I 0, I 0, I 0] 29)
        clear hS
        generalize v.heap.size = ga at ha HGE ⊢
        generalize World.alloc v _ = va at ha hq ⊢
        have HA := Lib.hid ha
        clear ha
        refine hK.out _ _ hq (fun hS => ?_)
        clear hK K hq
        rename World => v
        (try dsimp only [Act.put]); (try simp only [List.setIfInBounds_toArray, List.set_cons_zero, List.set_cons_succ])
        refine wpAnyH_ready (rs := [4]) (by kernel_rfl) (by simp) (AllReadyH.cons rfl (fun K hK => ?_) AllReadyH.nil)
        go_simp
        refine (S1.out _).mono ?_
        rintro e vn ⟨rfl, hb⟩
        have hq := hS.trans (hb.mono hS.size)
        have HA2 := Lib.hid (HA.out.step hb)
        clear HA
        have HA := HA2
        clear HA2
        clear hS hb
        go_simp
        refine hK.out _ _ hq (fun hS => ?_)
        clear hK K hq
        rename World => v
        (try dsimp only [Act.put]); (try simp only [List.setIfInBounds_toArray, List.set_cons_zero, List.set_cons_succ])
        refine wpAnyH_ready (rs := [6]) (by kernel_rfl) (by simp) (AllReadyH.cons rfl (fun K hK => ?_) AllReadyH.nil)
        rw [if_pos (by rfl)]
        refine wp_store_row 29 _ _ rfl ga r1.cells.toArray rfl rfl 29 _ (HA.out.at 0 rfl) infoRu rfl (one_ru _) ?_
        have hq := below_setRow hS (g := ga) HGE.out r1.cells.toArray
        have hput := HA.out.put 0 rfl r1.cells.toArray
        simp only [List.set_cons_succ, List.set_cons_zero] at hput
        generalize World.setRow _ ga _ = vs at hput hq ⊢
        have HC := Lib.hid hput
        clear hput
        refine hK.out _ _ hq (fun hS => ?_)
        clear hK K hq
        (try simp only [List.getElem_toArray, List.getElem_cons_succ, List.getElem_cons_zero])
        (try dsimp only [Act.put]); (try simp only [List.setIfInBounds_toArray, List.set_cons_zero, List.set_cons_succ])
        refine wpAnyH_done (by kernel_rfl) ?_ _
        go_wp2_with fail
        go_meet
        case rel => exact ⟨ga, rfl, HC.out⟩
    · go_simp
      have ha := (H1.out.step hS).alloc #[I 0, I 0, I 0, I 0, I 0, I 0, I 0, .bool false, .bool false, I 0, I 0, I 0] 29
      have HGE := Lib.hid hS.size
      have hq := hS.alloc hS.size (.cells #[I 0, I 0, I 0, I 0, I 0, I 0, I 0, .bool false, .bool false, I 0, I 0, I 0] 29)
      clear hS
      generalize v.heap.size = ga at ha HGE ⊢
      generalize World.alloc v _ = va at ha hq ⊢
      have HA := Lib.hid ha
      clear ha
      refine hK.out _ _ hq (fun hS => ?_)
      clear hK K hq
      rename World => v
      (try dsimp only [Act.put]); (try simp only [List.setIfInBounds_toArray, List.set_cons_zero, List.set_cons_succ])
      refine wpAnyH_ready (rs := [2]) (by kernel_rfl) (by simp) (AllReadyH.cons rfl (fun K hK => ?_) AllReadyH.nil)
      go_simp
      refine (BG.out _).mono ?_
      rintro e vn ⟨rfl, hb⟩
      have hq := hS.trans (hb.mono hS.size)
      have HA2 := Lib.hid (HA.out.step hb)
      clear HA
      have HA := HA2
      clear HA2
      clear hS hb
      go_simp
      refine hK.out _ _ hq (fun hS => ?_)
      clear hK K hq
      rename World => v
      (try dsimp only [Act.put]); (try simp only [List.setIfInBounds_toArray, List.set_cons_zero, List.set_cons_succ])
      refine wpAnyH_ready (rs := [4]) (by kernel_rfl) (by simp) (AllReadyH.cons rfl (fun K hK => ?_) AllReadyH.nil)
      go_simp
      refine (S1.out _).mono ?_
      rintro e vn ⟨rfl, hb⟩
      have hq := hS.trans (hb.mono hS.size)
      have HA2 := Lib.hid (HA.out.step hb)
      clear HA
      have HA := HA2
      clear HA2
      clear hS hb
      go_simp
      refine hK.out _ _ hq (fun hS => ?_)
      clear hK K hq
      rename World => v
      (try dsimp only [Act.put]); (try simp only [List.setIfInBounds_toArray, List.set_cons_zero, List.set_cons_succ])
      refine wpAnyH_ready (rs := [6]) (by kernel_rfl) (by simp) (AllReadyH.cons rfl (fun K hK => ?_) AllReadyH.nil)
      rw [if_pos (by rfl)]
      refine wp_store_row 29 _ _ rfl ga r1.cells.toArray rfl rfl 29 _ (HA.out.at 0 rfl) infoRu rfl (one_ru _) ?_
      have hq := below_setRow hS (g := ga) HGE.out r1.cells.toArray
      have hput := HA.out.put 0 rfl r1.cells.toArray
      simp only [List.set_cons_succ, List.set_cons_zero] at hput
      generalize World.setRow _ ga _ = vs at hput hq ⊢
      have HC := Lib.hid hput
      clear hput
      refine hK.out _ _ hq (fun hS => ?_)
      clear hK K hq
      (try simp only [List.getElem_toArray, List.getElem_cons_succ, List.getElem_cons_zero])
      (try dsimp only [Act.put]); (try simp only [List.setIfInBounds_toArray, List.set_cons_zero, List.set_cons_succ])
      refine wpAnyH_done (by kernel_rfl) ?_ _
      go_wp2_with fail
      go_meet
      case rel => exact ⟨ga, rfl, HC.out⟩
  case rest =>
  obtain ⟨gr, rfl, hcut⟩ := hcut
  have HW := Lib.hid hcut
  clear hcut
  rename World => wx
  have H3 := HW
  clear HW H1
  go_wp2_with (first | (refine Row.wpList_load_g 23 _ rfl (by first | rfl | (go_simp; done) | fail) ⟨gp, 0, none⟩ rfl p.cells _ (seg H3.out 1 0 rfl _ rfl) Try.underlying23 rfl infoP ?_) | (refine Row.wpList_load_g 29 _ rfl (by first | rfl | (go_simp; done) | fail) ⟨gr, 0, none⟩ rfl r1.cells _ (seg H3.out 0 0 rfl _ rfl) Try.underlying29 rfl infoRu ?_) | (refine wpList_build rfl 31 [(1, .const (.bool true))] rfl (Cu.cells ⟨false, true, false, false, false, false, false, false⟩).toArray _ (by rfl) (builtE) ?_))
  refine (S2.out _).mono ?_
  rintro e v4 ⟨rfl, bc⟩
  have H4 := Lib.hid (H3.out.step bc)
  clear bc
  go_upto_region 4 with (refine Row.wpList_store_new rfl 29 _ _ rfl _ _ y1.cells.toArray rfl rfl rfl infoRu rfl (one_ru _) ?_)
  have hn := H4.out.alloc y1.cells.toArray 29
  generalize World.alloc v4 _ = v5 at hn ⊢
  generalize v4.heap.size = gy at hn ⊢
  have H5 := Lib.hid hn
  clear hn
  clear H3 H4
  have k0 : v5.cell? ⟨gr, 0, none⟩ = some (I r1.co) := H5.out.cell 1 0 rfl rfl
  have k1 : v5.cell? ⟨gy, 0, none⟩ = some (I y1.co) := H5.out.cell 0 0 rfl rfl
  have k2 : v5.cell? ⟨gy, 1, none⟩ = some (I y1.tm) := H5.out.cell 0 1 rfl rfl
  rw [K0.out] at k0
  rw [K1.out] at k1
  rw [K2.out] at k2
  go_wp2_with (first | (refine Row.wpList_load_g 23 _ rfl (by first | rfl | (go_simp; done) | fail) ⟨gp, 0, none⟩ rfl p.cells _ (seg H5.out 2 0 rfl _ rfl) Try.underlying23 rfl infoP ?_) | (refine Row.wpList_load_g 29 _ rfl (by first | rfl | (go_simp; done) | fail) ⟨gr, 0, none⟩ rfl r1.cells _ (seg H5.out 1 0 rfl _ rfl) Try.underlying29 rfl infoRu ?_) | (refine wpList_buildG (by first | rfl | (go_simp; done) | fail) 31 [(4, .const (.bool true)), (5, .const (.bool true))] rfl (Cu.cells ⟨false, false, false, false, true, true, false, false⟩).toArray _ (by rfl) (builtH) ?_))
  refine (HE.out _).mono ?_
  rintro e v6 ⟨rfl, b6⟩
  go_wp2
  go_ret
  exact ⟨rfl, (H5.out.step b6).bel⟩
end Ru
namespace Ru
open Go Go.ChangeShapes Go.WideShapes Go.ChangeAt Go.RowKit
open Tab Flat TabArg QL
open May (infoP)
open Ped (ft cu idl Ft infoFt)
open Gap (lm lf gr Tn infoTn)
/-- a bit of a number -/
def bt (k : Int) : Bool := Go.bits BinOp.and IntKind.i64 k 1 == 1
def btA (k : Int) (q : Nat) : Array Value := #[.bool (decide (0 < q) && bt k), .bool (decide (1 < q) && bt (k / 2)), .bool (decide (2 < q) && bt (k / 4)), .bool (decide (3 < q) && bt (k / 8)), .bool (decide (4 < q) && bt (k / 16)), .bool (decide (5 < q) && bt (k / 32))]
def cueV (k : Int) : Cu := ⟨k / 1024 % 4 == 0, k / 4096 % 16 == 0, bt k, bt (k / 2), bt (k / 4) || bt (k / 8), bt (k / 16), bt (k / 32) && bt (k / 64), k / 128 % 8 == 0⟩
theorem builtA : Try.prog.built 81 [] = some #[.bool false, .bool false, .bool false, .bool false, .bool false, .bool false] := by kernel_rfl
theorem infoA6 : (Try.prog.info? 81).map (·.size) = some 6 := by kernel_rfl
theorem cue_any (n : Int) (w : World) : Calls Try.prog 19 #[.int .i64 n] w fun e w' => e = .returned (.agg (Cu.cells (cueV (n % 1099511627776))).toArray) ∧ Below w.heap.size w w' := by
  obtain ⟨k, hk⟩ : ∃ k, n % 1099511627776 = k := ⟨_, rfl⟩
  rw [hk]
  have k0 : 0 ≤ k := by omega
  have k1 : k < 1099511627776 := by omega
  have PL : Hid (∀ W, Calls Try.prog 18 #[.int .i64 n, .int .i64 1099511627776] W fun e w' => e = .returned (.int .i64 k) ∧ W = w') := Lib.hid (fun W => by have := Cnt.place_any n 1099511627776 W (by decide) (by decide); rwa [hk] at this)
  clear hk
  have hn0 := (Blk.Bks.nil w).alloc #[.bool false, .bool false, .bool false, .bool false, .bool false, .bool false, .bool false, .bool false] 31
  go_enter Try.func19, Try.ntmps19
  go_upto_region 2 with (go_at_call 18; refine (PL.out _).mono ?_; rintro e w' ⟨rfl, rfl⟩)
  generalize World.alloc w _ = v at hn0 ⊢
  generalize w.heap.size = gz at hn0 ⊢
  have H0 := Lib.hid hn0
  clear hn0
  go_upto_region 3 with (first | (refine wpList_build rfl 81 [] rfl #[.bool false, .bool false, .bool false, .bool false, .bool false, .bool false] [] rfl builtA ?_) | (refine Row.wpList_store_new rfl 81 _ _ rfl _ _ #[.bool false, .bool false, .bool false, .bool false, .bool false, .bool false] rfl rfl rfl infoA6 rfl rfl ?_))
  have hn := H0.out.alloc #[.bool false, .bool false, .bool false, .bool false, .bool false, .bool false] 81
  generalize World.alloc v _ = v1 at hn ⊢
  generalize v.heap.size = gb at hn ⊢
  have H1 := Lib.hid hn
  clear hn
  clear H0
  go_wp2_with fail
  go_loopw [5] (fun i wr => ∃ (q : Nat), q ≤ 6 ∧ i = .int .i64 q ∧ Blk.Bks w [(gb, btA k q, 81), (gz, #[.bool false, .bool false, .bool false, .bool false, .bool false, .bool false, .bool false, .bool false], 31)] wr) (fun i _ => 6 - (intOf i).toNat)
  case atStart => exact ⟨0, by omega, rfl, H1.out⟩
  case round =>
    obtain ⟨q, hq, rfl, hB⟩ := hrel
    have HB := Lib.hid hB
    clear hB H1
    by_cases hlt : q < 6
    · obtain rfl | rfl | rfl | rfl | rfl | rfl : q = 0 ∨ q = 1 ∨ q = 2 ∨ q = 3 ∨ q = 4 ∨ q = 5 := by omega
      all_goals clear hq hlt
      · have f0 : wr.frozen? ⟨gb, 0, none⟩ = false := HB.out.frozen 0 0 rfl
        have c0 : wr.cell? ⟨gb, 0, none⟩ = some (.bool false) := HB.out.cell 0 0 rfl rfl
        go_wp2_with fail
        have hput := HB.out.set 0 0 rfl (.bool (bt k))
        rw [show Array.setIfInBounds _ 0 (.bool (bt k)) = btA k 1 from rfl] at hput
        simp only [List.set_cons_zero] at hput
        refine ⟨⟨1, by omega, rfl, hput⟩, by simp [intOf]⟩
      · have f0 : wr.frozen? ⟨gb, 1, none⟩ = false := HB.out.frozen 0 1 rfl
        have c0 : wr.cell? ⟨gb, 1, none⟩ = some (.bool false) := HB.out.cell 0 1 rfl rfl
        go_wp2_with fail
        have hput := HB.out.set 0 1 rfl (.bool (bt (k / 2)))
        rw [show Array.setIfInBounds _ 1 (.bool (bt (k / 2))) = btA k 2 from rfl] at hput
        simp only [List.set_cons_zero] at hput
        refine ⟨⟨2, by omega, rfl, hput⟩, by simp [intOf]⟩
      · have f0 : wr.frozen? ⟨gb, 2, none⟩ = false := HB.out.frozen 0 2 rfl
        have c0 : wr.cell? ⟨gb, 2, none⟩ = some (.bool false) := HB.out.cell 0 2 rfl rfl
        go_wp2_with fail
        have hput := HB.out.set 0 2 rfl (.bool (bt (k / 4)))
        rw [show Array.setIfInBounds _ 2 (.bool (bt (k / 4))) = btA k 3 from rfl] at hput
        simp only [List.set_cons_zero] at hput
        refine ⟨⟨3, by omega, rfl, hput⟩, by simp [intOf]⟩
      · have f0 : wr.frozen? ⟨gb, 3, none⟩ = false := HB.out.frozen 0 3 rfl
        have c0 : wr.cell? ⟨gb, 3, none⟩ = some (.bool false) := HB.out.cell 0 3 rfl rfl
        go_wp2_with fail
        have hput := HB.out.set 0 3 rfl (.bool (bt (k / 8)))
        rw [show Array.setIfInBounds _ 3 (.bool (bt (k / 8))) = btA k 4 from rfl] at hput
        simp only [List.set_cons_zero] at hput
        refine ⟨⟨4, by omega, rfl, hput⟩, by simp [intOf]⟩
      · have f0 : wr.frozen? ⟨gb, 4, none⟩ = false := HB.out.frozen 0 4 rfl
        have c0 : wr.cell? ⟨gb, 4, none⟩ = some (.bool false) := HB.out.cell 0 4 rfl rfl
        go_wp2_with fail
        have hput := HB.out.set 0 4 rfl (.bool (bt (k / 16)))
        rw [show Array.setIfInBounds _ 4 (.bool (bt (k / 16))) = btA k 5 from rfl] at hput
        simp only [List.set_cons_zero] at hput
        refine ⟨⟨5, by omega, rfl, hput⟩, by simp [intOf]⟩
      · have f0 : wr.frozen? ⟨gb, 5, none⟩ = false := HB.out.frozen 0 5 rfl
        have c0 : wr.cell? ⟨gb, 5, none⟩ = some (.bool false) := HB.out.cell 0 5 rfl rfl
        go_wp2_with fail
        have hput := HB.out.set 0 5 rfl (.bool (bt (k / 32)))
        rw [show Array.setIfInBounds _ 5 (.bool (bt (k / 32))) = btA k 6 from rfl] at hput
        simp only [List.set_cons_zero] at hput
        refine ⟨⟨6, by omega, rfl, hput⟩, by simp [intOf]⟩
    · obtain rfl : q = 6 := by omega
      obtain ⟨b0, hb0⟩ : ∃ b, bt k = b := ⟨_, rfl⟩
      obtain ⟨b1, hb1⟩ : ∃ b, bt (k / 2) = b := ⟨_, rfl⟩
      obtain ⟨b2, hb2⟩ : ∃ b, bt (k / 4) = b := ⟨_, rfl⟩
      obtain ⟨b3, hb3⟩ : ∃ b, bt (k / 8) = b := ⟨_, rfl⟩
      obtain ⟨b4, hb4⟩ : ∃ b, bt (k / 16) = b := ⟨_, rfl⟩
      obtain ⟨b5, hb5⟩ : ∃ b, bt (k / 32) = b := ⟨_, rfl⟩
      have k0' : wr.cell? ⟨gb, 0, none⟩ = some (.bool b0) := by rw [← hb0]; exact HB.out.cell 0 0 rfl rfl
      have k1' : wr.cell? ⟨gb, 1, none⟩ = some (.bool b1) := by rw [← hb1]; exact HB.out.cell 0 1 rfl rfl
      have k2' : wr.cell? ⟨gb, 2, none⟩ = some (.bool b2) := by rw [← hb2]; exact HB.out.cell 0 2 rfl rfl
      have k3' : wr.cell? ⟨gb, 3, none⟩ = some (.bool b3) := by rw [← hb3]; exact HB.out.cell 0 3 rfl rfl
      have k4' : wr.cell? ⟨gb, 4, none⟩ = some (.bool b4) := by rw [← hb4]; exact HB.out.cell 0 4 rfl rfl
      have k5' : wr.cell? ⟨gb, 5, none⟩ = some (.bool b5) := by rw [← hb5]; exact HB.out.cell 0 5 rfl rfl
      obtain ⟨D, hD⟩ : ∃ D, cueV k = D := ⟨_, rfl⟩
      have HDK := Lib.hid hD
      unfold cueV at hD
      rw [hb0, hb1, hb2, hb3, hb4, hb5] at hD
      have HD := Lib.hid hD
      clear hD hb0 hb1 hb2 hb3 hb4 hb5
      cases b2
      · cases b5
        · have HV : Hid ((⟨k / 1024 % 4 == 0, k / 4096 % 16 == 0, b0, b1, b3, b4, false, k / 128 % 8 == 0⟩ : Cu) = D) := Lib.hid (by rw [← HD.out]; simp)
          go_wp2_with (refine wpList_store_row rfl 31 _ _ rfl gz #[.bool (k / 1024 % 4 == 0), .bool (k / 4096 % 16 == 0), .bool b0, .bool b1, .bool b3, .bool b4, .bool false, .bool (k / 128 % 8 == 0)] rfl rfl 31 _ (HB.out.at 1 rfl) infoCu rfl (by simp [Value.oneCell']) ?_)
          have hput := HB.out.put 1 rfl #[.bool (k / 1024 % 4 == 0), .bool (k / 4096 % 16 == 0), .bool b0, .bool b1, .bool b3, .bool b4, .bool false, .bool (k / 128 % 8 == 0)]
          simp only [List.set_cons_succ, List.set_cons_zero] at hput
          generalize World.setRow _ gz _ = vz at hput ⊢
          have HG := Lib.hid hput
          clear hput
          (try go_wp2_with fail)
          (try simp only [Exit.inBlock, Exit.then])
          refine bodyPost_ret (v := .agg #[.bool (k / 1024 % 4 == 0), .bool (k / 4096 % 16 == 0), .bool b0, .bool b1, .bool b3, .bool b4, .bool false, .bool (k / 128 % 8 == 0)]) ?_ rfl ⟨by rw [HDK.out, ← HV.out]; rfl, HG.out.bel⟩
          exact results_cell_row rfl _ _ gz 31 _ (0, 0) _ rfl (HG.out.at 1 rfl) Try.underlying31 rfl infoCu
        · have HV : Hid ((⟨k / 1024 % 4 == 0, k / 4096 % 16 == 0, b0, b1, b3, b4, bt (k / 64), k / 128 % 8 == 0⟩ : Cu) = D) := Lib.hid (by rw [← HD.out]; simp)
          go_wp2_with (refine wpList_store_row rfl 31 _ _ rfl gz #[.bool (k / 1024 % 4 == 0), .bool (k / 4096 % 16 == 0), .bool b0, .bool b1, .bool b3, .bool b4, .bool (bt (k / 64)), .bool (k / 128 % 8 == 0)] rfl rfl 31 _ (HB.out.at 1 rfl) infoCu rfl (by simp [Value.oneCell']) ?_)
          have hput := HB.out.put 1 rfl #[.bool (k / 1024 % 4 == 0), .bool (k / 4096 % 16 == 0), .bool b0, .bool b1, .bool b3, .bool b4, .bool (bt (k / 64)), .bool (k / 128 % 8 == 0)]
          simp only [List.set_cons_succ, List.set_cons_zero] at hput
          generalize World.setRow _ gz _ = vz at hput ⊢
          have HG := Lib.hid hput
          clear hput
          (try go_wp2_with fail)
          (try simp only [Exit.inBlock, Exit.then])
          refine bodyPost_ret (v := .agg #[.bool (k / 1024 % 4 == 0), .bool (k / 4096 % 16 == 0), .bool b0, .bool b1, .bool b3, .bool b4, .bool (bt (k / 64)), .bool (k / 128 % 8 == 0)]) ?_ rfl ⟨by rw [HDK.out, ← HV.out]; rfl, HG.out.bel⟩
          exact results_cell_row rfl _ _ gz 31 _ (0, 0) _ rfl (HG.out.at 1 rfl) Try.underlying31 rfl infoCu
      · cases b5
        · have HV : Hid ((⟨k / 1024 % 4 == 0, k / 4096 % 16 == 0, b0, b1, true, b4, false, k / 128 % 8 == 0⟩ : Cu) = D) := Lib.hid (by rw [← HD.out]; simp)
          go_wp2_with (refine wpList_store_row rfl 31 _ _ rfl gz #[.bool (k / 1024 % 4 == 0), .bool (k / 4096 % 16 == 0), .bool b0, .bool b1, .bool true, .bool b4, .bool false, .bool (k / 128 % 8 == 0)] rfl rfl 31 _ (HB.out.at 1 rfl) infoCu rfl (by simp [Value.oneCell']) ?_)
          have hput := HB.out.put 1 rfl #[.bool (k / 1024 % 4 == 0), .bool (k / 4096 % 16 == 0), .bool b0, .bool b1, .bool true, .bool b4, .bool false, .bool (k / 128 % 8 == 0)]
          simp only [List.set_cons_succ, List.set_cons_zero] at hput
          generalize World.setRow _ gz _ = vz at hput ⊢
          have HG := Lib.hid hput
          clear hput
          (try go_wp2_with fail)
          (try simp only [Exit.inBlock, Exit.then])
          refine bodyPost_ret (v := .agg #[.bool (k / 1024 % 4 == 0), .bool (k / 4096 % 16 == 0), .bool b0, .bool b1, .bool true, .bool b4, .bool false, .bool (k / 128 % 8 == 0)]) ?_ rfl ⟨by rw [HDK.out, ← HV.out]; rfl, HG.out.bel⟩
          exact results_cell_row rfl _ _ gz 31 _ (0, 0) _ rfl (HG.out.at 1 rfl) Try.underlying31 rfl infoCu
        · have HV : Hid ((⟨k / 1024 % 4 == 0, k / 4096 % 16 == 0, b0, b1, true, b4, bt (k / 64), k / 128 % 8 == 0⟩ : Cu) = D) := Lib.hid (by rw [← HD.out]; simp)
          go_wp2_with (refine wpList_store_row rfl 31 _ _ rfl gz #[.bool (k / 1024 % 4 == 0), .bool (k / 4096 % 16 == 0), .bool b0, .bool b1, .bool true, .bool b4, .bool (bt (k / 64)), .bool (k / 128 % 8 == 0)] rfl rfl 31 _ (HB.out.at 1 rfl) infoCu rfl (by simp [Value.oneCell']) ?_)
          have hput := HB.out.put 1 rfl #[.bool (k / 1024 % 4 == 0), .bool (k / 4096 % 16 == 0), .bool b0, .bool b1, .bool true, .bool b4, .bool (bt (k / 64)), .bool (k / 128 % 8 == 0)]
          simp only [List.set_cons_succ, List.set_cons_zero] at hput
          generalize World.setRow _ gz _ = vz at hput ⊢
          have HG := Lib.hid hput
          clear hput
          (try go_wp2_with fail)
          (try simp only [Exit.inBlock, Exit.then])
          refine bodyPost_ret (v := .agg #[.bool (k / 1024 % 4 == 0), .bool (k / 4096 % 16 == 0), .bool b0, .bool b1, .bool true, .bool b4, .bool (bt (k / 64)), .bool (k / 128 % 8 == 0)]) ?_ rfl ⟨by rw [HDK.out, ← HV.out]; rfl, HG.out.bel⟩
          exact results_cell_row rfl _ _ gz 31 _ (0, 0) _ rfl (HG.out.at 1 rfl) Try.underlying31 rfl infoCu
end Ru
namespace Fits
open Go.ChangeShapes Go.WideShapes Go.ChangeAt Go.RowKit
open Tab Clone QL
open May (infoP)
end Fits
namespace Arg
open Go Go.RowKit Go.ChangeShapes Tab
section
variable {α : Type} {n : Nat} {f : α → List Value} {w u : World} {s : Sl} {l : List α}
/-- The elements of a slice: one address for all. -/
theorem rows_at (h : RowOf n f w s l) : ∃ x : Addr, (∀ q (hq : q < l.length), s.a = some x ∧ Lies w (x.add (q * n)) (f l[q])) ∧ l.length ≤ s.cap ∧ s.cap ≤ maxLen := by
  obtain ⟨h1, h2⟩ := h.len
  cases hs : s.a with
  | none =>
    refine ⟨⟨0, 0, none⟩, fun q hq => ?_, h1, h2⟩
    obtain ⟨x, e, _⟩ := h.at (List.getElem?_eq_getElem hq)
    rw [hs] at e; cases e
  | some y =>
    refine ⟨y, fun q hq => ?_, h1, h2⟩
    obtain ⟨x, e, k⟩ := h.at (List.getElem?_eq_getElem hq)
    rw [hs] at e
    obtain rfl := Option.some.inj e
    exact ⟨rfl, k⟩
/-- One-cell elements, in a later world. -/
theorem one_below {v : Value} {x : Addr} {q : Nat} (h : Lies w (x.add (q * 1)) [v]) (hb : Below w.heap.size w u) : u.cell? (x.add q) = some v := by
  have := Lies.below h hb 0 v rfl
  rwa [Tab.add_zero, Nat.mul_one] at this
/-- A slice of integers, as a function. -/
theorem ints_at {l : List Int} (h : RowOf 1 (fun n : Int => [Tab.I n]) w s l) : ∃ (x : Addr) (z : Nat → Int), (∀ q, q < l.length → s.a = some x ∧ Lies w (x.add (q * 1)) [Tab.I (z q)]) ∧ l.length ≤ s.cap ∧ s.cap ≤ maxLen := by
  obtain ⟨x, h0, h1, h2⟩ := rows_at h
  refine ⟨x, fun q => l.getD q 0, fun q hq => ?_, h1, h2⟩
  obtain ⟨e, k⟩ := h0 q hq
  refine ⟨e, ?_⟩
  show Lies w _ [Tab.I (l.getD q 0)]
  rw [show l.getD q 0 = l[q] by simp [List.getD, List.getElem?_eq_getElem hq]]
  exact k
end
end Arg
namespace SetM
/-- The lowest eight bits. -/
def low (s : Int) : Nat := (s % 256).toNat
theorem low_lt (s : Int) : low s < 256 := by unfold low; omega
/-- Is p a phase of s? -/
def has (s p : Int) : Bool := decide (0 ≤ p) && (low s).testBit p.toNat
/-- The set of p alone: empty if p is not a phase. -/
def bit (p : Int) : Nat := if 0 ≤ p ∧ p < 8 then 2 ^ p.toNat else 0
def withN (s p : Int) : Nat := low s ||| bit p
theorem toNat_low (s : Int) : (BitVec.ofInt 64 s).toNat % 256 = low s := by
  rw [BitVec.toNat_ofInt]
  unfold low
  show (s % ((18446744073709551616 : Nat) : Int)).toNat % 256 = _
  omega
theorem toNat_ofNat (b : Nat) (h : b < 256) : (BitVec.ofInt 64 (b : Int)).toNat = b := by
  rw [BitVec.toNat_ofInt]
  show ((b : Int) % ((18446744073709551616 : Nat) : Int)).toNat = _
  omega
theorem wrap_small (n : Nat) (h : n < 256) : IntKind.i64.wrap (n : Int) = n := by
  rw [IntKind.wrap_i64]; omega
theorem and_low (s : Int) (b : Nat) (h : b < 256) : bits .and .i64 s (b : Int) = ((low s &&& b : Nat) : Int) := by
  show IntKind.i64.wrap ((BitVec.ofInt 64 s &&& BitVec.ofInt 64 (b : Int)).toNat : Nat) = _
  rw [BitVec.toNat_and, toNat_ofNat b h]
  have h1 : (BitVec.ofInt 64 s).toNat &&& b < 256 := Nat.and_lt_two_pow (n := 8) _ h
  have h2 : ((BitVec.ofInt 64 s).toNat &&& b) % 2 ^ 8 = _ := Nat.and_mod_two_pow
  rw [wrap_small _ h1, ← toNat_low s]
  rw [Nat.mod_eq_of_lt h1, Nat.mod_eq_of_lt (show b < 2 ^ 8 from h)] at h2
  rw [h2]
theorem bit_lt (p : Int) : bit p < 256 := by
  unfold bit
  split
  · rename_i h
    have : 2 ^ p.toNat ≤ 2 ^ 7 := Nat.pow_le_pow_right (by decide) (by omega)
    omega
  · decide
theorem test_high (m k : Nat) (h : m < 256) (hk : 8 ≤ k) : m.testBit k = false :=
  Nat.testBit_lt_two_pow (Nat.lt_of_lt_of_le h (Nat.pow_le_pow_right (n := 2) (by decide) hk : 2 ^ 8 ≤ 2 ^ k))
theorem test_bit (p : Int) (k : Nat) : (bit p).testBit k = decide ((k : Int) = p ∧ k < 8) := by
  unfold bit
  split
  · rename_i h
    rw [Nat.testBit_two_pow]
    rw [Bool.eq_iff_iff, decide_eq_true_iff, decide_eq_true_iff]
    omega
  · rename_i h
    rw [Nat.zero_testBit]
    symm
    rw [decide_eq_false_iff_not]
    omega
theorem has_neg (s p : Int) (h : p < 0) : has s p = false := by unfold has; rw [decide_eq_false (by omega)]; rfl
theorem has_big (s p : Int) (h : 8 ≤ p) : has s p = false := by
  unfold has; rw [test_high _ _ (low_lt s) (by omega), Bool.and_false]
theorem has_nat (s : Int) (k : Nat) : has s k = (low s).testBit k := by unfold has; simp
/-- The document's own way to ask it. -/
theorem has_shr (s : Int) (k : Nat) (h : k < 8) : bits .and .i64 (s / 2 ^ k) 1 = if has s k then 1 else 0 := by
  have h1 := and_low (s / 2 ^ k) 1 (by decide)
  have h2 : low (s / 2 ^ k) &&& 1 = low s / 2 ^ k % 2 := by
    rw [Nat.and_one_is_mod]
    have h3 : k = 0 ∨ k = 1 ∨ k = 2 ∨ k = 3 ∨ k = 4 ∨ k = 5 ∨ k = 6 ∨ k = 7 := by omega
    unfold low
    rcases h3 with rfl | rfl | rfl | rfl | rfl | rfl | rfl | rfl
    all_goals (simp only [Nat.reducePow, Int.reducePow]; omega)
  rw [h2] at h1
  rw [has_nat, Nat.testBit_eq_decide_div_mod_eq]
  rw [show ((1 : Nat) : Int) = 1 from rfl] at h1
  rw [h1]
  have h4 : low s / 2 ^ k % 2 < 2 := Nat.mod_lt _ (by decide)
  split <;> rename_i h5
  · rw [of_decide_eq_true h5]; rfl
  · have : low s / 2 ^ k % 2 = 0 := by simp at h5; omega
    rw [this]; rfl
/-- The phases below k. -/
def upto (s : Int) (k : Nat) : List Int := ((List.range k).filter fun j => (low s).testBit j).map Int.ofNat
def list (s : Int) : List Int := upto s 8
theorem upto_zero (s : Int) : upto s 0 = [] := rfl
theorem upto_hit (s : Int) (k : Nat) (h : has s k = true) : upto s (k + 1) = upto s k ++ [(k : Int)] := by
  rw [has_nat] at h
  unfold upto; rw [List.range_succ, List.filter_append, List.map_append]; simp [h]
theorem upto_miss (s : Int) (k : Nat) (h : has s k = false) : upto s (k + 1) = upto s k := by
  rw [has_nat] at h
  unfold upto; rw [List.range_succ, List.filter_append, List.map_append]; simp [h]
theorem upto_len (s : Int) (k : Nat) : (upto s k).length ≤ k := by
  unfold upto; rw [List.length_map]; have := List.length_filter_le (fun j => (low s).testBit j) (List.range k); simpa using this
theorem list_len (s : Int) : (list s).length ≤ 8 := upto_len s 8
theorem mem_list (s p : Int) : p ∈ list s ↔ has s p = true := by
  unfold list upto
  rw [List.mem_map]
  constructor
  · rintro ⟨j, hj, rfl⟩
    rw [List.mem_filter] at hj
    rw [show Int.ofNat j = (j : Int) from rfl, has_nat]; exact hj.2
  · intro h
    have h0 : 0 ≤ p := by
      by_cases h1 : 0 ≤ p
      · exact h1
      · rw [has_neg s p (by omega)] at h; cases h
    have h8 : p < 8 := by
      by_cases h1 : p < 8
      · exact h1
      · rw [has_big s p (by omega)] at h; cases h
    obtain ⟨k, rfl⟩ := Int.eq_ofNat_of_zero_le h0
    rw [has_nat] at h
    have h9 : k < 8 := by omega
    exact ⟨k, List.mem_filter.2 ⟨List.mem_range.2 h9, h⟩, rfl⟩
theorem list_bd (s p : Int) (h : p ∈ list s) : 0 ≤ p ∧ p < 8 := by
  unfold list upto at h
  obtain ⟨j, hj, rfl⟩ := List.mem_map.1 h
  have := List.mem_range.1 (List.mem_filter.1 hj).1
  rw [show Int.ofNat j = (j : Int) from rfl]
  omega
/-- The set of a list. -/
def of (l : List Int) : Nat := l.foldl (fun m p => m ||| bit p) 0
theorem of_snoc (l : List Int) (p : Int) : of (l ++ [p]) = of l ||| bit p := by unfold of; rw [List.foldl_append]; rfl
theorem fold_lt (l : List Int) (m : Nat) (h : m < 256) : l.foldl (fun m p => m ||| bit p) m < 256 := by
  induction l generalizing m with
  | nil => exact h
  | cons p l ih => exact ih _ (Nat.or_lt_two_pow (n := 8) h (bit_lt p))
theorem of_lt (l : List Int) : of l < 256 := fold_lt l 0 (by decide)
theorem fold_test (l : List Int) (m k : Nat) : (l.foldl (fun m p => m ||| bit p) m).testBit k = (m.testBit k || decide ((k : Int) ∈ l ∧ k < 8)) := by
  induction l generalizing m with
  | nil => simp
  | cons p l ih =>
    rw [List.foldl_cons, ih, Nat.testBit_or, test_bit, Bool.or_assoc]
    congr 1
    rw [Bool.eq_iff_iff, Bool.or_eq_true, decide_eq_true_iff, decide_eq_true_iff, decide_eq_true_iff, List.mem_cons]
    constructor
    · rintro (⟨a, b⟩ | ⟨a, b⟩)
      · exact ⟨.inl a, b⟩
      · exact ⟨.inr a, b⟩
    · rintro ⟨a | a, b⟩
      · exact .inl ⟨a, b⟩
      · exact .inr ⟨a, b⟩
theorem of_test (l : List Int) (k : Nat) : (of l).testBit k = decide ((k : Int) ∈ l ∧ k < 8) := by
  unfold of; rw [fold_test, Nat.zero_testBit, Bool.false_or]
theorem eq_of {m m' : Nat} (h : m < 256) (h' : m' < 256) (e : ∀ k, k < 8 → m.testBit k = m'.testBit k) : m = m' := by
  apply Nat.eq_of_testBit_eq
  intro k
  by_cases hk : k < 8
  · exact e k hk
  · rw [test_high m k h (by omega), test_high m' k h' (by omega)]
/-- The document's own way to make it: phase by phase. -/
def refOf (l : List Int) : Nat → Nat
  | 0 => 0
  | k + 1 => if (k : Int) ∈ l then refOf l k ||| 2 ^ k else refOf l k
theorem refOf_hit (l : List Int) (k : Nat) (h : (k : Int) ∈ l) : refOf l (k + 1) = refOf l k ||| 2 ^ k := by rw [refOf, if_pos h]
theorem refOf_miss (l : List Int) (k : Nat) (h : ¬ (k : Int) ∈ l) : refOf l (k + 1) = refOf l k := by rw [refOf, if_neg h]
theorem refOf_lt (l : List Int) (k : Nat) : refOf l k < 2 ^ k := by
  induction k with
  | zero => exact Nat.one_pos
  | succ k ih =>
    have h1 : refOf l k < 2 ^ (k + 1) := Nat.lt_of_lt_of_le ih (Nat.pow_le_pow_right (by decide) (by omega))
    rw [refOf]
    split
    · exact Nat.or_lt_two_pow h1 (Nat.pow_lt_pow_right (by decide) (by omega))
    · exact h1
theorem refOf_test (l : List Int) (k j : Nat) : (refOf l k).testBit j = decide (j < k ∧ (j : Int) ∈ l) := by
  induction k with
  | zero => simp [refOf]
  | succ k ih =>
    by_cases h : (k : Int) ∈ l
    · rw [refOf_hit l k h, Nat.testBit_or, ih, Nat.testBit_two_pow, Bool.eq_iff_iff, Bool.or_eq_true, decide_eq_true_iff, decide_eq_true_iff, decide_eq_true_iff]
      constructor
      · rintro (⟨a, b⟩ | rfl)
        · exact ⟨by omega, b⟩
        · exact ⟨by omega, h⟩
      · rintro ⟨a, b⟩
        by_cases e : k = j
        · exact .inr e
        · exact .inl ⟨by omega, b⟩
    · rw [refOf_miss l k h, ih, Bool.eq_iff_iff, decide_eq_true_iff, decide_eq_true_iff]
      constructor
      · rintro ⟨a, b⟩
        exact ⟨by omega, b⟩
      · rintro ⟨a, b⟩
        have : j ≠ k := by rintro rfl; exact h b
        exact ⟨by omega, b⟩
theorem refOf_eq (l : List Int) : refOf l 8 = of l := by
  refine eq_of (refOf_lt l 8) (of_lt l) fun k hk => ?_
  rw [refOf_test, of_test, Bool.eq_iff_iff, decide_eq_true_iff, decide_eq_true_iff, and_comm]
theorem list_test (s : Int) (k : Nat) (hk : k < 8) : decide ((k : Int) ∈ list s ∧ k < 8) = (low s).testBit k := by
  rw [Bool.eq_iff_iff, decide_eq_true_iff, mem_list, has_nat]
  exact ⟨fun h => h.1, fun h => ⟨h, hk⟩⟩
theorem of_list (s : Int) : of (list s) = low s := by
  refine eq_of (of_lt _) (low_lt s) fun k hk => ?_
  rw [of_test, list_test s k hk]
theorem of_with (s p : Int) : of (list s ++ [p]) = withN s p := by
  rw [of_snoc, of_list]; rfl
end SetM
namespace RefS
open Go.ChangeShapes Go.WideShapes Go.ChangeAt Go.RowKit
open Go.Proofs.Ytbpfknkbiaplpaa
theorem ret_int {k : IntKind} {a b : Int} (h : a = b) : Ending.returned (.int k a) = .returned (.int k b) := by rw [h]
theorem ret_bool {a b : Bool} (h : a = b) : Ending.returned (.bool a) = .returned (.bool b) := by rw [h]
theorem eight {p : Int} (h : 0 ≤ p) (h' : p < 8) : p = 0 ∨ p = 1 ∨ p = 2 ∨ p = 3 ∨ p = 4 ∨ p = 5 ∨ p = 6 ∨ p = 7 := by omega
theorem shr_has (s : Int) (k : Nat) (h : k < 8) : (bits .and .i64 (s / 2 ^ k) 1 == 1) = SetM.has s k := by
  rw [SetM.has_shr s k h]
  cases SetM.has s k <;> rfl
theorem rhas_any (s p : Int) (w : World) : Calls Try.prog 77 #[.int .i64 s, .int .i64 p] w fun e w' => e = .returned (.bool (SetM.has s p)) ∧ w = w' := by
  by_cases h1 : p < 0
  · have HB := Lib.hid (SetM.has_neg s p h1)
    go_enter Try.func77, Try.ntmps77
    go_wp2
    go_ret
    exact ⟨ret_bool HB.out.symm, rfl⟩
  by_cases h2 : 8 ≤ p
  · have HB := Lib.hid (SetM.has_big s p h2)
    go_enter Try.func77, Try.ntmps77
    go_wp2
    go_ret
    exact ⟨ret_bool HB.out.symm, rfl⟩
  rcases eight (p := p) (by omega) (by omega) with rfl | rfl | rfl | rfl | rfl | rfl | rfl | rfl
  · have HB := Lib.hid (show (bits .and .i64 s 1 == 1) = SetM.has s 0 from by have := shr_has s 0 (by decide); simpa using this)
    clear h1 h2
    go_enter Try.func77, Try.ntmps77
    go_wp2
    go_ret
    exact ⟨ret_bool HB.out, rfl⟩
  · have HB := Lib.hid (show (bits .and .i64 (s / 2) 1 == 1) = SetM.has s 1 from shr_has s 1 (by decide))
    clear h1 h2
    go_enter Try.func77, Try.ntmps77
    go_wp2
    go_ret
    exact ⟨ret_bool HB.out, rfl⟩
  · have HB := Lib.hid (show (bits .and .i64 (s / 4) 1 == 1) = SetM.has s 2 from shr_has s 2 (by decide))
    clear h1 h2
    go_enter Try.func77, Try.ntmps77
    go_wp2
    go_ret
    exact ⟨ret_bool HB.out, rfl⟩
  · have HB := Lib.hid (show (bits .and .i64 (s / 8) 1 == 1) = SetM.has s 3 from shr_has s 3 (by decide))
    clear h1 h2
    go_enter Try.func77, Try.ntmps77
    go_wp2
    go_ret
    exact ⟨ret_bool HB.out, rfl⟩
  · have HB := Lib.hid (show (bits .and .i64 (s / 16) 1 == 1) = SetM.has s 4 from shr_has s 4 (by decide))
    clear h1 h2
    go_enter Try.func77, Try.ntmps77
    go_wp2
    go_ret
    exact ⟨ret_bool HB.out, rfl⟩
  · have HB := Lib.hid (show (bits .and .i64 (s / 32) 1 == 1) = SetM.has s 5 from shr_has s 5 (by decide))
    clear h1 h2
    go_enter Try.func77, Try.ntmps77
    go_wp2
    go_ret
    exact ⟨ret_bool HB.out, rfl⟩
  · have HB := Lib.hid (show (bits .and .i64 (s / 64) 1 == 1) = SetM.has s 6 from shr_has s 6 (by decide))
    clear h1 h2
    go_enter Try.func77, Try.ntmps77
    go_wp2
    go_ret
    exact ⟨ret_bool HB.out, rfl⟩
  · have HB := Lib.hid (show (bits .and .i64 (s / 128) 1 == 1) = SetM.has s 7 from shr_has s 7 (by decide))
    clear h1 h2
    go_enter Try.func77, Try.ntmps77
    go_wp2
    go_ret
    exact ⟨ret_bool HB.out, rfl⟩
theorem info3 : (Try.prog.info? 3).map (fun i => (i.zero, i.size, i.bytes)) = some (some (.int .i64 0), 1, 8) := by kernel_rfl
/-- A slice of its own memory (laid since B) that holds the integers l; nil just where there are none. -/
def Owns (B : Nat) (W : World) (v : Value) (l : List Int) : Prop := W.ownsRow B 3 1 v l.length (l.map (Value.int .i64)) ∧ (v = .slice none 0 0 ↔ l = [])
/-- What a function hands back that gathers integers. -/
def Gave (w : World) (l : List Int) (e : Ending) (W' : World) : Prop := ∃ v, e = .returned v ∧ Owns w.heap.size W' v l ∧ Below w.heap.size w W'
theorem row_blk {W : World} {n₀ e size k : Nat} {v : Value} {xs : List Value} (h : W.ownsRow n₀ e size v k xs) (j : Nat) (hj : v.ownBlock = some j) : n₀ ≤ j := by
  rcases h.2 with ⟨rfl, _⟩ | ⟨g, cap, cur, rfl, hb, _, _⟩
  · simp [Value.ownBlock] at hj
  · obtain rfl : g = j := by simpa [Value.ownBlock] using hj
    exact hb
theorem map_snoc (pre : List Int) (x : Int) : pre.map (Value.int .i64) ++ [.int .i64 x] = (pre ++ [x]).map (Value.int .i64) := by simp
theorem add_zero (x : Addr) : x.add 0 = x := by cases x; simp [Addr.add]
/-- A slice's address under which the integers l lie. -/
def Row (w : World) (a : Option Addr) (l : List Int) : Prop := l.length ≤ maxLen ∧ (l = [] ∨ ∃ x, a = some x ∧ ∀ i, i < l.length → w.cell? (x.add i) = some (.int .i64 (l.getD i 0)))
theorem Row.cells {w : World} {a : Option Addr} {l : List Int} (h : Row w a l) {k : Nat} (hk : k < l.length) : ∃ x, a = some x ∧ ∀ i, i < l.length → w.cell? (x.add i) = some (.int .i64 (l.getD i 0)) := by
  rcases h.2 with rfl | h
  · simp at hk
  · exact h
theorem Row.below {w w' : World} {a : Option Addr} {l : List Int} (h : Row w a l) (hb : Below w.heap.size w w') : Row w' a l := by
  refine ⟨h.1, ?_⟩
  rcases h.2 with h | ⟨x, hx, hc⟩
  · exact .inl h
  · exact .inr ⟨x, hx, fun i hi => (hb.cell (World.block_lt_of_cell? w _ (hc i hi))).trans (hc i hi)⟩
/-- What a function has gathered reads as a row. -/
theorem row_of {B : Nat} {w : World} {v : Value} {l : List Int} (h : Owns B w v l) : ∃ a cap, v = .slice a l.length cap ∧ Row w a l := by
  rcases h.1.2 with ⟨rfl, h0⟩ | ⟨g, cap, cur, rfl, h1, h2, h3, h4, h5, h6⟩
  · have : l = [] := h.2.1 rfl
    subst this
    exact ⟨none, 0, rfl, Nat.zero_le _, .inl rfl⟩
  · refine ⟨_, cap, rfl, by omega, .inr ⟨_, rfl, fun i hi => ?_⟩⟩
    exact h.1.cells (g := g) rfl i (.int .i64 (l.getD i 0)) (by rw [List.getElem?_map, List.getD_eq_getElem?_getD, List.getElem?_eq_getElem hi]; rfl)
theorem take_succ (l : List Int) (k : Nat) (h : k < l.length) : l.take (k + 1) = l.take k ++ [l.getD k 0] := by
  rw [List.take_succ_eq_append_getElem h, List.getD_eq_getElem?_getD, List.getElem?_eq_getElem h]; rfl
theorem or_small (m b : Nat) (hm : m < 256) (hb : b < 256) : bits .or .i64 (m : Int) (b : Int) = ((m ||| b : Nat) : Int) :=
  (bits_nat .i64 8 (by decide) (fun n h0 h1 => by rw [IntKind.wrap_i64]; omega) m b hm hb).2
theorem ref_lt (l : List Int) (k : Nat) (h : k ≤ 8) : SetM.refOf l k < 256 := Nat.lt_of_lt_of_le (SetM.refOf_lt l k) (Nat.pow_le_pow_right (n := 2) (by decide) h : 2 ^ k ≤ 2 ^ 8)
theorem ref_or (l : List Int) (k : Nat) (h : k < 8) (hm : (k : Int) ∈ l) : bits .or .i64 (SetM.refOf l k : Nat) ((2 ^ k : Nat) : Int) = (SetM.refOf l (k + 1) : Nat) := by
  rw [or_small _ _ (ref_lt l k (by omega)) (show 2 ^ k < 2 ^ 8 from Nat.pow_lt_pow_right (by decide) h), SetM.refOf_hit l k hm]
theorem wrap_pow (k : Nat) (h : k < 8) : wrap64 ((2 : Int) ^ k) = ((2 ^ k : Nat) : Int) := by
  have h3 : k = 0 ∨ k = 1 ∨ k = 2 ∨ k = 3 ∨ k = 4 ∨ k = 5 ∨ k = 6 ∨ k = 7 := by omega
  rcases h3 with rfl | rfl | rfl | rfl | rfl | rfl | rfl | rfl <;> decide +kernel
theorem ref_or2 (l : List Int) (k : Nat) (h : k < 8) (hm : (k : Int) ∈ l) : bits .or .i64 (SetM.refOf l k : Nat) (wrap64 ((2 : Int) ^ k)) = (SetM.refOf l (k + 1) : Nat) := by
  rw [wrap_pow k h, ref_or l k h hm]
/-- The first place of a number that is there. -/
theorem first_at {l : List Int} {p : Int} (h : p ∈ l) : ∃ j, j < l.length ∧ l.getD j 0 = p ∧ ∀ i, i < j → l.getD i 0 ≠ p := by
  induction l with
  | nil => simp at h
  | cons y l ih =>
    by_cases e : y = p
    · exact ⟨0, by simp, by simpa using e, fun i hi => by omega⟩
    · obtain ⟨j, h1, h2, h3⟩ := ih (by simpa [Ne.symm e] using h)
      refine ⟨j + 1, by simp; omega, by simpa using h2, fun i hi => ?_⟩
      cases i with
      | zero => simpa using e
      | succ i => simpa using h3 i (by omega)
theorem rof_any (a : Option Addr) (cap : Nat) (l : List Int) (w : World) (h : Row w a l) :
    Calls Try.prog 60 #[.slice a l.length cap] w fun e w' => e = .returned (.int .i64 (SetM.of l : Nat)) ∧ w = w' := by
  have h1 := h.1
  unfold maxLen at h1
  have Hr := Lib.hid h
  clear h
  go_enter Try.func60, Try.ntmps60
  go_wp2
  go_loop [3, 4] (fun t p => ∃ k : Nat, k ≤ 8 ∧ p = .int .i64 k ∧ t = .int .i64 (SetM.refOf l k : Nat)) (fun _ p => 8 - (intOf p).toNat)
  case atStart => exact ⟨0, Nat.zero_le _, rfl, rfl⟩
  case round =>
    obtain ⟨k, hk, rfl, rfl⟩ := hrel
    by_cases hlt : k < 8
    · by_cases hm : (k : Int) ∈ l
      · have HS := Lib.hid (ref_or2 l k hlt hm)
        obtain ⟨j, hj, hjk, hjn⟩ := first_at hm
        have Hj := Lib.hid hjk
        have Hn := Lib.hid hjn
        clear hjk hjn hm
        go_wp2
        go_loop [3, 5] (fun t i => ∃ m : Nat, m ≤ j ∧ i = .int .i64 m ∧ t = .int .i64 (SetM.refOf l k : Nat)) (fun _ i => j - (intOf i).toNat)
        case atStart => exact ⟨0, Nat.zero_le _, rfl, rfl⟩
        case round =>
          obtain ⟨m, hm, rfl, rfl⟩ := hrel
          have hml : m < l.length := by omega
          obtain ⟨x, rfl, hc⟩ := Hr.out.cells hml
          have hcell := hc m hml
          clear hc
          by_cases hmj : m < j
          · have hne := Hn.out m hmj
            generalize l.getD m 0 = y at hne hcell
            go_wp2
            go_round
            case rel => exact ⟨m + 1, by omega, by go_num, rfl⟩
            case measure => simp [intOf]; omega
          · obtain rfl : m = j := by omega
            rw [Hj.out] at hcell
            go_wp2
            go_round
            case rel => exact ⟨k + 1, by omega, by go_num, by rw [HS.out]⟩
            case measure => simp [intOf]; omega
      · have HS := Lib.hid (SetM.refOf_miss l k hm)
        have Hm : Hid (∀ i, i < l.length → l.getD i 0 ≠ (k : Int)) := Lib.hid (fun i hi e => hm (by rw [← e, List.getD_eq_getElem?_getD, List.getElem?_eq_getElem hi]; exact List.getElem_mem hi))
        clear hm
        go_wp2
        go_loop [3, 5] (fun t i => ∃ m : Nat, m ≤ l.length ∧ i = .int .i64 m ∧ t = .int .i64 (SetM.refOf l k : Nat)) (fun _ i => l.length - (intOf i).toNat)
        case atStart => exact ⟨0, Nat.zero_le _, rfl, rfl⟩
        case round =>
          obtain ⟨m, hm, rfl, rfl⟩ := hrel
          by_cases hml : m < l.length
          · obtain ⟨x, rfl, hc⟩ := Hr.out.cells hml
            have hcell := hc m hml
            clear hc
            have hne := Hm.out m hml
            generalize l.getD m 0 = y at hne hcell
            go_wp2
            go_round
            case rel => exact ⟨m + 1, by omega, by go_num, rfl⟩
            case measure => simp [intOf]; omega
          · go_wp2
            go_round
            case rel => exact ⟨k + 1, by omega, by go_num, by rw [HS.out]⟩
            case measure => simp [intOf]; omega
    · have HS := Lib.hid (SetM.refOf_eq l)
      obtain rfl : k = 8 := by omega
      go_wp2
      go_ret
      exact ⟨ret_int (by rw [HS.out]), rfl⟩
theorem list_snoc {B : Nat} {l : List Int} {x : Int} {v' : Value} {w1 : World} (h : w1.ownsRow B 3 1 v' (l.length + 1) (l.map (Value.int .i64) ++ [.int .i64 x])) (hn : ¬ v' = .slice none 0 0) : Owns B w1 v' (l ++ [x]) := by
  refine ⟨?_, ?_⟩
  · rw [List.length_append, ← map_snoc]; exact h
  · simp [hn]
theorem rlist_any (s : Int) (w : World) : Calls Try.prog 61 #[.int .i64 s] w (Gave w (SetM.list s)) := by
  obtain ⟨i0, hi, hz0, hz1, hz2⟩ := info_parts info3
  go_enter Try.func61, Try.ntmps61
  go_wp2
  go_loopw [3, 4] (fun v p wr => ∃ k : Nat, k ≤ 8 ∧ p = .int .i64 k ∧ Owns w.heap.size wr v (SetM.upto s k) ∧ Below w.heap.size w wr) (fun _ p _ => 8 - (intOf p).toNat)
  case atStart => exact ⟨0, Nat.zero_le _, rfl, ⟨World.ownsRow_nil _ _ _ _, by simp [SetM.upto_zero]⟩, Below.refl _ _⟩
  case round =>
    obtain ⟨k, hk, rfl, ⟨hown, hnil⟩, hbel⟩ := hrel
    have hB := hbel.size
    have Hn := Lib.hid hnil
    clear hnil
    by_cases hlt : k < 8
    · have hul := SetM.upto_len s k
      by_cases hh : SetM.has s k = true
      · have Hs := Lib.hid (SetM.upto_hit s k hh)
        go_wp2_with (first
          | (go_at_call 77; refine (rhas_any _ _ _).mono ?_; rintro e w' ⟨rfl, rfl⟩; rw [hh])
          | (at_builtin; refine wpList_append_own _ rfl _ _ 37 rfl w.heap.size 3 i0 (.int .i64 0) 1 8 Try.underlying37 hi hz0 hz1 hz2 rfl (by decide) _ _ _ rfl (hown.alloc _) ⟨wr.heap.size, 0, none⟩ 1 1 [.int .i64 (k : Int)] rfl rfl ?c1 ?c2 ?c3 ?c4 ?c5 ?_))
        case c1 =>
          intro j u hj
          match j, hj with
          | 0, hj => simp at hj; subst hj; simp [Addr.add]
        case c2 => intro u hu; simp at hu; subst hu; rfl
        case c3 => unfold maxLen; omega
        case c4 => omega
        case c5 => simp; omega
        intro v' w1 hown' hgrow hnil'
        have hbel' : Below w.heap.size w w1 := (hbel.alloc (by omega) _).grown hgrow (by simp; omega) fun j hj => row_blk hown j hj
        have Hown := Lib.hid (list_snoc hown' hnil')
        clear hown' hgrow hown hnil'
        go_wp2
        go_roundw
        case rel => exact ⟨k + 1, by omega, by go_num, by rw [Hs.out]; exact Hown.out, hbel'⟩
        case measure => simp [intOf]; omega
      · have hh' : SetM.has s k = false := by simpa using hh
        have Hs := Lib.hid (SetM.upto_miss s k hh')
        clear hh
        go_wp2_with (go_at_call 77; refine (rhas_any _ _ _).mono ?_; rintro e w' ⟨rfl, rfl⟩; rw [hh'])
        go_roundw
        case rel => exact ⟨k + 1, by omega, by go_num, by rw [Hs.out]; exact ⟨hown, Hn.out⟩, hbel⟩
        case measure => simp [intOf]; omega
    · obtain rfl : k = 8 := by omega
      go_wp2
      go_ret
      exact ⟨_, rfl, ⟨hown, Hn.out⟩, hbel⟩
theorem rwith_any (s p : Int) (w : World) : Calls Try.prog 34 #[.int .i64 s, .int .i64 p] w fun e w' => e = .returned (.int .i64 (SetM.withN s p : Nat)) ∧ Below w.heap.size w w' := by
  obtain ⟨i0, hi, hz0, hz1, hz2⟩ := info_parts info3
  have hl8 := SetM.list_len s
  have HS := Lib.hid (SetM.of_with s p)
  go_enter Try.func34, Try.ntmps34
  go_wp2_with fail
  refine (rlist_any _ _).mono ?_
  rintro e w1 ⟨v, rfl, ⟨hown, hnil⟩, hbel⟩
  have hB := hbel.size
  clear hnil
  go_wp2_with (at_builtin; refine wpList_append_own _ rfl _ _ 37 rfl w.heap.size 3 i0 (.int .i64 0) 1 8 Try.underlying37 hi hz0 hz1 hz2 rfl (by decide) _ _ _ rfl (hown.alloc _) ⟨w1.heap.size, 0, none⟩ 1 1 [.int .i64 p] rfl rfl ?c1 ?c2 ?c3 ?c4 ?c5 ?_)
  case c1 =>
    intro j u hj
    match j, hj with
    | 0, hj => simp at hj; subst hj; simp [Addr.add]
  case c2 => intro u hu; simp at hu; subst hu; rfl
  case c3 => unfold maxLen; omega
  case c4 => omega
  case c5 => simp; omega
  intro v' w2 hown' hgrow hnil'
  have hbel' : Below w.heap.size w w2 := (hbel.alloc (by omega) _).grown hgrow (by simp; omega) fun j hj => row_blk hown j hj
  obtain ⟨L, hL⟩ : ∃ L, SetM.list s ++ [p] = L := ⟨_, rfl⟩
  have hrow' := list_snoc hown' hnil'
  rw [hL] at HS hrow'
  obtain ⟨a, cap, rfl, hrow⟩ := row_of hrow'
  have Hrow := Lib.hid hrow
  clear hown' hgrow hown hnil' hrow hrow' hL
  go_wp2_with (go_at_call 60; refine (rof_any _ _ L _ Hrow.out).mono ?_; rintro e w' ⟨rfl, rfl⟩)
  go_ret
  exact ⟨ret_int (by rw [HS.out]), hbel'⟩
/-- A number as one from 0 to n - 1. -/
theorem place_any (v n : Int) (w : World) (h : 0 < n) (h' : n ≤ 9223372036854775807) :
    Calls Try.prog 18 #[.int .i64 v, .int .i64 n] w fun e w' => e = .returned (.int .i64 (v % n)) ∧ w = w' := by
  have hm := Int.emod_nonneg v (show n ≠ 0 by omega)
  have hm2 := Int.emod_lt_of_pos v h
  have ht : 0 ≤ v.tmod n ∧ v % n = v.tmod n ∨ v.tmod n < 0 ∧ v % n = v.tmod n + n := by
    have h1 := Int.tmod_eq_emod (a := v) (b := n)
    split at h1 <;> omega
  have hb : -9223372036854775808 ≤ v.tmod n ∧ v.tmod n ≤ 9223372036854775807 := by omega
  obtain ⟨hb1, hb2⟩ := hb
  have hn0 : n ≠ 0 := by omega
  rcases ht with ⟨ht, he⟩ | ⟨ht, he⟩
  · have He := Lib.hid he
    clear he hm hm2
    go_enter Try.func18, Try.ntmps18
    go_wp2
    go_ret
    exact ⟨ret_int (by rw [He.out]), rfl⟩
  · have He := Lib.hid he
    clear he hm hm2
    go_enter Try.func18, Try.ntmps18
    go_wp2
    go_ret
    exact ⟨ret_int (by rw [He.out]), rfl⟩
/-! numbers of a row -/
open Tab in
/-- A row of numbers, at a place; 0 behind the end. -/
def num (L : List Int) (i : Int) (n : Int) : Int := L.getD i.toNat 0 % n
open Tab in
theorem at_any (a : Option Addr) (cap : Nat) (L : List Int) (i : Int) (w : World) (h : IntRow w ⟨a, cap⟩ L) (h0 : 0 ≤ i) :
    Calls Try.prog 59 #[.slice a L.length cap, .int .i64 i] w fun e w' => e = .returned (.int .i64 (L.getD i.toNat 0)) ∧ w = w' := by
  have hl := h.len
  unfold maxLen at hl
  obtain ⟨k, rfl⟩ := Int.eq_ofNat_of_zero_le h0
  by_cases hk : k < L.length
  · have hv := List.getElem?_eq_getElem hk
    generalize hu : L[k] = u at hv
    obtain ⟨x, hx, hc⟩ := IntRow.at h hv
    obtain rfl : a = some x := hx
    have HE : Hid (u = L.getD ((k : Int)).toNat 0) := Lib.hid (by rw [Int.toNat_natCast, List.getD_eq_getElem?_getD, hv]; rfl)
    generalize L.getD ((k : Int)).toNat 0 = r at HE ⊢
    clear hv hu h
    go_enter Try.func59, Try.ntmps59
    go_wp2
    go_ret
    exact ⟨ret_int HE.out, rfl⟩
  · have HE : Hid (0 = L.getD ((k : Int)).toNat 0) := Lib.hid (by rw [Int.toNat_natCast, List.getD_eq_getElem?_getD, List.getElem?_eq_none (by omega)]; rfl)
    generalize L.getD ((k : Int)).toNat 0 = r at HE ⊢
    clear h
    go_enter Try.func59, Try.ntmps59
    go_wp2
    go_ret
    exact ⟨ret_int HE.out, rfl⟩
open Tab in
theorem from_any (a : Option Addr) (cap : Nat) (L : List Int) (i n : Int) (w : World) (h : IntRow w ⟨a, cap⟩ L) (h0 : 0 ≤ i) (hn : 0 < n) (hn' : n ≤ 1000) :
    Calls Try.prog 33 #[.slice a L.length cap, .int .i64 i, .int .i64 n] w fun e w' => e = .returned (.int .i64 (num L i n)) ∧ w = w' := by
  have H := Lib.hid h
  clear h
  go_enter Try.func33, Try.ntmps33
  go_wp2_with fail
  refine (at_any a cap L i w H.out h0).mono ?_
  rintro e w' ⟨rfl, rfl⟩
  have HE : Hid (L.getD i.toNat 0 % n = num L i n) := Lib.hid rfl
  generalize L.getD i.toNat 0 = v at HE ⊢
  go_wp2_with fail
  refine (place_any v n _ hn (by omega)).mono ?_
  rintro e w' ⟨rfl, rfl⟩
  go_wp2
  go_ret
  exact ⟨ret_int HE.out, rfl⟩
theorem num_range (L : List Int) (i n : Int) (hn : 0 < n) : 0 ≤ num L i n ∧ num L i n < n := ⟨Int.emod_nonneg _ (by omega), Int.emod_lt_of_pos _ hn⟩
end RefS
namespace GenG
open Go.ChangeShapes Go.WideShapes Go.ChangeAt Go.RowKit
open Tab Gath
open RefS (num from_any num_range ret_int)
/-- m phases from p on. -/
def seg (p m : Nat) : List Int := (List.range m).map fun i => ((p + i : Nat) : Int)
theorem seg_len (p m : Nat) : (seg p m).length = m := by simp [seg]
theorem seg_succ (p m : Nat) : seg p (m + 1) = seg p m ++ [((p + m : Nat) : Int)] := by unfold seg; rw [List.range_succ, List.map_append]; rfl
def lim (G g : Nat) : Nat := 9 + g - G
def want0 (L : List Int) (g : Nat) : Nat := (num L (1 + 2 * g) 3).toNat
def want1 (L : List Int) (g : Nat) (m : Nat) : Nat := if num L (2 + 2 * g) 3 = 0 ∧ m = 0 then 1 else (num L (2 + 2 * g) 3).toNat
def n0 (L : List Int) (G g p : Nat) : Nat := min (want0 L g) (lim G g - p)
def n1 (L : List Int) (G g p : Nat) : Nat := min (want1 L g (n0 L G g p)) (lim G g - (p + n0 L G g p))
def grpD (L : List Int) (G g p : Nat) : List Int × List Int := (seg p (n0 L G g p), seg (p + n0 L G g p) (n1 L G g p))
def upTo (L : List Int) (G : Nat) : Nat → List (List Int × List Int) × Nat
  | 0 => ([], 0)
  | g + 1 => ((upTo L G g).1 ++ [grpD L G g (upTo L G g).2], (upTo L G g).2 + n0 L G g (upTo L G g).2 + n1 L G g (upTo L G g).2)
def genG (L : List Int) : Nat := (1 + num L 0 3).toNat
def genGs (L : List Int) : List (List Int × List Int) := (upTo L (genG L) (genG L)).1
def genN (L : List Int) : Nat := (upTo L (genG L) (genG L)).2
theorem genG_range (L : List Int) : 1 ≤ genG L ∧ genG L ≤ 3 := by have := num_range L 0 3 (by omega); unfold genG; omega
theorem want0_le (L : List Int) (g : Nat) : want0 L g ≤ 2 := by have := num_range L (1 + 2 * g) 3 (by omega); unfold want0; omega
theorem want1_le (L : List Int) (g m : Nat) : want1 L g m ≤ 2 := by have := num_range L (2 + 2 * g) 3 (by omega); unfold want1; split <;> omega
theorem up_le (L : List Int) (G : Nat) (hG : G ≤ 3) : ∀ g, g ≤ G → (upTo L G g).2 ≤ 8
  | 0, _ => Nat.zero_le _
  | g + 1, h => by
    have := up_le L G hG g (by omega)
    show (upTo L G g).2 + n0 L G g (upTo L G g).2 + n1 L G g (upTo L G g).2 ≤ 8
    unfold n1 n0 lim
    omega
theorem up_len (L : List Int) (G : Nat) : ∀ g, (upTo L G g).1.length = g
  | 0 => rfl
  | g + 1 => by show ((upTo L G g).1 ++ [_]).length = g + 1; rw [List.length_append, up_len L G g]; rfl
/-- A row of integers, in a block of integers. -/
def RowI (w : World) (s : Sl) (l : List Int) : Prop := IntRow w s l ∧ ∀ x, s.a = some x → ∃ cs : Array Value, w.heap[x.block]? = some (.cells cs 3 (0, 0))
theorem RowI.below {w w' : World} {s : Sl} {l : List Int} (h : RowI w s l) (hb : Below w.heap.size w w') : RowI w' s l := ⟨h.1.below hb, fun x hx => by
  obtain ⟨cs, hc⟩ := h.2 x hx
  exact ⟨cs, (hb.block _ (Array.getElem?_eq_some_iff.1 hc).1).trans hc⟩⟩
theorem add_block (x : Addr) (k : Nat) : (x.add k).block = x.block := by unfold Addr.add; split <;> rfl
theorem RowI.grown {w w' : World} {s : Sl} {l : List Int} {row : Option Nat} (h : RowI w s l) (hg : w.grownBy w' row) (hne : ∀ x, s.a = some x → some x.block ≠ row) : RowI w' s l := by
  refine ⟨?_, fun x hx => ?_⟩
  · rcases h.1 with h | ⟨x, h1, h2, h3, h4⟩
    · exact .inl h
    · exact .inr ⟨x, h1, h2, h3, fun i v hv j u hu => hg.cell (h4 i v hv j u hu) (by rw [add_block, add_block]; exact hne x h1)⟩
  · obtain ⟨cs, hc⟩ := h.2 x hx
    exact ⟨cs, (hg.block _ (Array.getElem?_eq_some_iff.1 hc).1 (hne x hx)).trans hc⟩
/-- It lies in another block than one of another type. -/
theorem RowI.ne {w : World} {s : Sl} {l : List Int} {b : Nat} {cs : Array Value} {t : TypeId} (h : RowI w s l) (hb : w.heap[b]? = some (.cells cs t (0, 0))) (ht : t ≠ 3) : ∀ x, s.a = some x → x.block ≠ b := by
  intro x hx e
  obtain ⟨ds, hc⟩ := h.2 x hx
  rw [e, hb] at hc
  simp at hc
  exact ht hc.2
theorem grown_set (W : World) (b i : Nat) (v : Value) : W.grownBy (W.setCell ⟨b, i, none⟩ v) (some b) :=
  ⟨rfl, rfl, rfl, by simp, fun j _ hj => heap_setCell_other _ _ _ _ (fun e => hj (by rw [e]))⟩
theorem own_row {B : Nat} {w : World} {v : Value} {l : List Int} (h : Owns (fun n => [I n]) 1 B w 3 v l) : ∃ s : Sl, v = s.val l.length ∧ RowI w s l := by
  obtain ⟨s, hs, hr⟩ := Owns.row h (enc := fun n => [I n]) (fun _ => rfl)
  refine ⟨s, hs, hr, fun x hx => ?_⟩
  rcases h.2 with ⟨e, _⟩ | ⟨g, cap, cur, e, h1, h2, _⟩
  · rw [hs] at e
    simp [Sl.val, hx] at e
  · rw [hs] at e
    simp [Sl.val, hx] at e
    obtain ⟨rfl, _⟩ := e
    exact ⟨cur, h2⟩
theorem own_kept {α : Type} {enc : α → List Value} {n B : Nat} {w w' : World} {t : TypeId} {v : Value} {l : List α} {row : Option Nat} (h : Owns enc n B w t v l) (hg : w.grownBy w' row) (hne : ∀ m, v.ownBlock = some m → row ≠ some m) : Owns enc n B w' t v l :=
  World.ownsRow.kept h hg (by
    cases e : v.ownBlock with
    | none => exact .inl rfl
    | some m => exact .inr (fun e' => hne m e e'.symm))
theorem own_lt {α : Type} {enc : α → List Value} {n B : Nat} {w : World} {t : TypeId} {v : Value} {l : List α} (h : Owns enc n B w t v l) : ∀ m, v.ownBlock = some m → m < w.heap.size := by
  intro m hm
  rcases h.2 with ⟨rfl, _⟩ | ⟨g, cap, cur, rfl, h1, h2, _⟩
  · simp [Value.ownBlock] at hm
  · simp [Value.ownBlock] at hm
    subst hm
    exact (Array.getElem?_eq_some_iff.1 h2).1
theorem own_type {α : Type} {enc : α → List Value} {n B : Nat} {w : World} {t : TypeId} {v : Value} {l : List α} (h : Owns enc n B w t v l) : ∀ m, v.ownBlock = some m → ∃ cs : Array Value, w.heap[m]? = some (.cells cs t (0, 0)) := by
  intro m hm
  rcases h.2 with ⟨rfl, _⟩ | ⟨g, cap, cur, rfl, h1, h2, _⟩
  · simp [Value.ownBlock] at hm
  · simp [Value.ownBlock] at hm
    subst hm
    exact ⟨cur, h2⟩
theorem own_ne {α : Type} {enc : α → List Value} {n B : Nat} {w : World} {t t' : TypeId} {v : Value} {l : List α} {b : Nat} {cs : Array Value} (h : Owns enc n B w t v l) (hb : w.heap[b]? = some (.cells cs t' (0, 0))) (ht : t' ≠ t) : v.ownBlock ≠ some b := by
  intro e
  obtain ⟨ds, hd⟩ := own_type h b e
  rw [hb] at hd
  simp at hd
  exact ht hd.2
theorem grown_below {w w' : World} (hb : Below w.heap.size w w') (row : Option Nat) : w.grownBy w' row := ⟨hb.os, hb.tape, hb.output, hb.size, fun j hj _ => hb.block j hj⟩
theorem grown_trans {w w1 w2 : World} {b : Nat} {row : Option Nat} (h : w.grownBy w1 (some b)) (h2 : w1.grownBy w2 row) (hr : ∀ m, row = some m → m = b ∨ w.heap.size ≤ m) : w.grownBy w2 (some b) := by
  refine ⟨h2.os.trans h.os, h2.tape.trans h.tape, h2.output.trans h.output, Nat.le_trans h.size h2.size, fun j hj hne => ?_⟩
  rw [h2.block j (Nat.lt_of_lt_of_le hj h.size) (fun e => by rcases hr j e.symm with e' | e'; exact hne (by rw [e']); omega), h.block j hj hne]
/-- One group while its first row is filled. -/
structure G0 (Bg : Nat) (w1 : World) (a : Option Addr) (c : Nat) (p i : Nat) (W : World) : Prop where
  bel : Below Bg w1 W
  box : W.heap[Bg]? = some (.cells #[.slice a i c, .slice none 0 0] 85 (0, 0))
  own : Owns (fun n => [I n]) 1 (Bg + 1) W 3 (.slice a i c) (seg p i)
theorem G0.step {Bg : Nat} {w1 W W' : World} {a : Option Addr} {c p i : Nat} (h : G0 Bg w1 a c p i W) (hb : Below W.heap.size W W') (hB : Bg ≤ W.heap.size) : G0 Bg w1 a c p i W' :=
  ⟨h.bel.trans (hb.mono hB), (hb.block _ (Array.getElem?_eq_some_iff.1 h.box).1).trans h.box, h.own.below hb⟩
theorem G0.put {Bg : Nat} {w1 W W' : World} {a : Option Addr} {c p i : Nat} {v' : Value} (h : G0 Bg w1 a c p i W) (hB : Bg + 1 ≤ W.heap.size) (hg : W.grownBy W' (Value.slice a i c).ownBlock)
    (ho : W'.ownsRow (Bg + 1) 3 1 v' (i + 1) ((seg p i).flatMap (fun n => [I n]) ++ [I ((p + i : Nat) : Int)])) :
    (W'.heap[Bg]? = some (.cells #[.slice a i c, .slice none 0 0] 85 (0, 0))) ∧ ∃ a' c', v' = .slice a' (i + 1) c' ∧ G0 Bg w1 a' c' p (i + 1) (W'.setCell ⟨Bg, 0, none⟩ v') := by
  have hne : some Bg ≠ (Value.slice a i c).ownBlock := fun e => by have := h.own.blk _ e.symm; omega
  have hbx := (hg.block Bg (by omega) hne).trans h.box
  have hO : Owns (fun n => [I n]) 1 (Bg + 1) W' 3 v' (seg p (i + 1)) := by
    rw [seg_succ]; refine Owns.snoc ?_; rw [seg_len]; exact ho
  obtain ⟨⟨a', c'⟩, hs, hr⟩ := own_row hO
  rw [seg_len] at hs
  refine ⟨hbx, a', c', hs, ?_⟩
  have hB' : Bg ≤ W'.heap.size := Nat.le_trans (by omega) hg.size
  refine ⟨?_, ?_, ?_⟩
  · exact (h.bel.grown hg (by omega) (fun k hk => by have := h.own.blk k hk; omega)).setCell (p := ⟨Bg, 0, none⟩) (Nat.le_refl _) v'
  · rw [heap_setCell_same _ _ _ _ _ _ hbx, hs]; rfl
  · rw [hs] at hO ⊢
    exact own_kept hO (grown_set _ _ _ _) (fun m hm e => by have := hO.blk m hm; cases e; omega)
/-- One group while its second row is filled. -/
structure G1 (Bg : Nat) (w1 : World) (B1 : Nat) (a : Option Addr) (c : Nat) (p m : Nat) (a1 : Option Addr) (c1 : Nat) (i : Nat) (W : World) : Prop where
  bel : Below Bg w1 W
  box : W.heap[Bg]? = some (.cells #[.slice a m c, .slice a1 i c1] 85 (0, 0))
  own : Owns (fun n => [I n]) 1 (Bg + 1) W 3 (.slice a m c) (seg p m)
  lt : ∀ j, (Value.slice a m c).ownBlock = some j → j < B1
  own1 : Owns (fun n => [I n]) 1 B1 W 3 (.slice a1 i c1) (seg (p + m) i)
  sz : B1 ≤ W.heap.size
theorem G0.next {Bg : Nat} {w1 W : World} {a : Option Addr} {c p m : Nat} (h : G0 Bg w1 a c p m W) : G1 Bg w1 W.heap.size a c p m none 0 0 W :=
  ⟨h.bel, h.box, h.own, own_lt h.own, Owns.nil, Nat.le_refl _⟩
theorem G1.step {Bg B1 : Nat} {w1 W W' : World} {a a1 : Option Addr} {c p m c1 i : Nat} (h : G1 Bg w1 B1 a c p m a1 c1 i W) (hb : Below W.heap.size W W') (hB : Bg ≤ W.heap.size) : G1 Bg w1 B1 a c p m a1 c1 i W' :=
  ⟨h.bel.trans (hb.mono hB), (hb.block _ (Array.getElem?_eq_some_iff.1 h.box).1).trans h.box, h.own.below hb, h.lt, h.own1.below hb, Nat.le_trans h.sz hb.size⟩
theorem G1.put {Bg B1 : Nat} {w1 W W' : World} {a a1 : Option Addr} {c p m c1 i : Nat} {v' : Value} (h : G1 Bg w1 B1 a c p m a1 c1 i W) (h1 : Bg < B1) (hB : B1 ≤ W.heap.size) (hg : W.grownBy W' (Value.slice a1 i c1).ownBlock)
    (ho : W'.ownsRow B1 3 1 v' (i + 1) ((seg (p + m) i).flatMap (fun n => [I n]) ++ [I ((p + m + i : Nat) : Int)])) :
    (W'.heap[Bg]? = some (.cells #[.slice a m c, .slice a1 i c1] 85 (0, 0))) ∧ ∃ a' c', v' = .slice a' (i + 1) c' ∧ G1 Bg w1 B1 a c p m a' c' (i + 1) (W'.setCell ⟨Bg, 1, none⟩ v') := by
  have hne : some Bg ≠ (Value.slice a1 i c1).ownBlock := fun e => by have := h.own1.blk _ e.symm; omega
  have hbx := (hg.block Bg (by omega) hne).trans h.box
  have hO : Owns (fun n => [I n]) 1 B1 W' 3 v' (seg (p + m) (i + 1)) := by
    rw [seg_succ]; refine Owns.snoc ?_; rw [seg_len]; exact ho
  have hO0 : Owns (fun n => [I n]) 1 (Bg + 1) W' 3 (.slice a m c) (seg p m) := own_kept h.own hg (fun j hj e => by have := h.lt j hj; have := h.own1.blk j e; omega)
  obtain ⟨⟨a', c'⟩, hs, hr⟩ := own_row hO
  rw [seg_len] at hs
  refine ⟨hbx, a', c', hs, ?_⟩
  have hB' : Bg ≤ W'.heap.size := Nat.le_trans (by omega) hg.size
  refine ⟨?_, ?_, ?_, h.lt, ?_, by simp; exact Nat.le_trans h.sz hg.size⟩
  · exact (h.bel.grown hg (by omega) (fun k hk => by have := h.own1.blk k hk; omega)).setCell (p := ⟨Bg, 1, none⟩) (Nat.le_refl _) v'
  · rw [heap_setCell_same _ _ _ _ _ _ hbx, hs]; rfl
  · exact own_kept hO0 (grown_set _ _ _ _) (fun m hm e => by have := hO0.blk m hm; cases e; omega)
  · rw [hs] at hO ⊢
    exact own_kept hO (grown_set _ _ _ _) (fun m hm e => by have := hO.blk m hm; cases e; omega)
/-- The groups so far. -/
structure GS (w : World) (tb : Nat) (cs : List Value) (ga : Option Addr) (gc : Nat) (g : Nat) (gs : List Gr) (W : World) : Prop where
  gb : w.grownBy W (some tb)
  tbk : W.heap[tb]? = some (.cells (cs.set 104 (.slice ga g gc)).toArray 45 (0, 0))
  own : Owns Gr.cells 2 w.heap.size W 85 (.slice ga g gc) gs
  len : gs.length = g
  rows : ∀ x ∈ gs, RowI W x.s0 x.r0 ∧ RowI W x.s1 x.r1
theorem GS.step {w W W' : World} {tb : Nat} {cs : List Value} {ga : Option Addr} {gc g : Nat} {gs : List Gr} (h : GS w tb cs ga gc g gs W) (hb : Below W.heap.size W W') : GS w tb cs ga gc g gs W' :=
  ⟨grown_trans h.gb (grown_below hb none) (fun m e => by cases e), (hb.block _ (Array.getElem?_eq_some_iff.1 h.tbk).1).trans h.tbk, h.own.below hb, h.len, fun x hx => ⟨(h.rows x hx).1.below hb, (h.rows x hx).2.below hb⟩⟩
theorem GS.put {w W W' : World} {tb : Nat} {cs : List Value} {ga : Option Addr} {gc g : Nat} {gs : List Gr} {v' : Value} (x : Gr) (h : GS w tb cs ga gc g gs W) (hx : RowI W x.s0 x.r0 ∧ RowI W x.s1 x.r1) (hg : W.grownBy W' (Value.slice ga g gc).ownBlock) (hc : cs.length = 131)
    (ho : W'.ownsRow w.heap.size 85 2 v' (g + 1) (gs.flatMap Gr.cells ++ x.cells)) :
    (W'.heap[tb]? = some (.cells (cs.set 104 (.slice ga g gc)).toArray 45 (0, 0))) ∧ ∃ a' c', v' = .slice a' (g + 1) c' ∧ GS w tb cs a' c' (g + 1) (gs ++ [x]) (W'.setCell ⟨tb, 104, none⟩ v') := by
  have hne : some tb ≠ (Value.slice ga g gc).ownBlock := fun e => own_ne h.own h.tbk (by decide) e.symm
  have hbx := (hg.block tb (Array.getElem?_eq_some_iff.1 h.tbk).1 hne).trans h.tbk
  have hO : Owns Gr.cells 2 w.heap.size W' 85 v' (gs ++ [x]) := Owns.snoc (by rw [h.len]; exact ho)
  obtain ⟨⟨a', c'⟩, hs, hr⟩ := Owns.row hO (fun _ => rfl)
  have hs2 : v' = .slice a' (g + 1) c' := by rw [hs, List.length_append, h.len]; rfl
  have hK : ∀ s l, RowI W s l → RowI (W'.setCell ⟨tb, 104, none⟩ v') s l := fun s l hr => by
    have h1 : RowI W' s l := hr.grown hg (fun y hy e => by
      obtain ⟨ds, hd⟩ := own_type h.own _ e.symm
      exact hr.ne hd (by decide) y hy rfl)
    exact h1.grown (grown_set _ _ _ _) (fun y hy e => h1.ne hbx (by decide) y hy (by cases e; rfl))
  refine ⟨hbx, a', c', hs2, ?_, ?_, ?_, by rw [List.length_append, h.len]; rfl, ?_⟩
  · exact grown_trans (grown_trans h.gb hg (fun m e => .inr (h.own.blk m e))) (grown_set _ _ _ _) (fun m e => .inl (by cases e; rfl))
  · rw [heap_setCell_same _ _ _ _ _ _ hbx, hs2]
    simp
  · rw [← hs2]
    exact own_kept hO (grown_set _ _ _ _) (fun m hm e => by cases e; exact own_ne hO hbx (by decide) hm)
  · intro y hy
    rcases List.mem_append.1 hy with hy | hy
    · exact ⟨hK _ _ (h.rows y hy).1, hK _ _ (h.rows y hy).2⟩
    · obtain rfl : y = x := by simpa using hy
      exact ⟨hK _ _ hx.1, hK _ _ hx.2⟩
theorem from_at (a : Option Addr) (cap : Nat) (L : List Int) (i j n : Int) (hij : i = j) (w : World) (h : IntRow w ⟨a, cap⟩ L) (h0 : 0 ≤ i) (hn : 0 < n) (hn' : n ≤ 1000) :
    Calls Try.prog 33 #[.slice a L.length cap, .int .i64 i, .int .i64 n] w fun e w' => e = .returned (.int .i64 (num L j n)) ∧ w = w' := by
  subst hij; exact from_any a cap L i n w h h0 hn hn'
theorem infoGz : (Try.prog.info? 85).map (fun i => (i.zero, i.size)) = some (some (.agg #[.slice none 0 0, .slice none 0 0]), 2) := by kernel_rfl
theorem infoG2 : (Try.prog.info? 85).map (·.size) = some 2 := by kernel_rfl
theorem infoG3 : (Try.prog.info? 85).map (fun i => (i.zero, i.size, i.bytes)) = some (some (.agg #[.slice none 0 0, .slice none 0 0]), 2, 48) := by kernel_rfl
end GenG
end Go.Proofs.Ytbpfknkbiaplpaa
