/- 9 texts in one file, in build order. -/
import Derived.Test.YtbpfknkbiaplpaaRows
import Derived.Test.YtbpfknkbiaplpaaPart05
import Derived.Test.YtbpfknkbiaplpaaPart03
import Derived.Test.YtbpfknkbiaplpaaPart04
import Derived.Test.YtbpfknkbiaplpaaPart01
import Derived.StillTailTactics
import Derived.Laws.Rows
import Derived.Deep.Cut
import Derived.Laws.FloatArith
import Derived.Great.BuildSlice
import Derived.WalkKit
import Derived.Deep.CutRange
set_option linter.unusedVariables false
set_option linter.unusedSimpArgs false
set_option linter.unusedSectionVars false
set_option maxHeartbeats 8000000
set_option maxRecDepth 100000
namespace Go.Proofs.Ytbpfknkbiaplpaa
namespace GenP
open Go.ChangeShapes Go.WideShapes Go.ChangeAt Go.RowKit
open Tab Clone RefS
open May (infoP)
open Same (below_setRow)
theorem infoPz : (Try.prog.info? 23).map (fun i => (i.zero, i.size)) = some (some (.agg zPh.cells.toArray), 13) := by kernel_rfl
def recall (x walk : Int) : Int := if x > 3 ∨ x = 3 ∧ walk = 0 then 0 else x
/-- A phase by twelve numbers. -/
def genPh (L : List Int) (i : Int) : Ph :=
  let min := 1 + num L i 12
  let max := min + num L (i + 5) 25
  let walks := num L (i + 7) 2 = 1
  let walk := if walks then 1 + num L (i + 8) 10 else 0
  ⟨true, min, num L (i + 1) 9, max, max + num L (i + 6) 15, 1 + num L (i + 2) 6, 10 + num L (i + 3) 4, num L (i + 4) 5, walk, if walks then 1 + num L (i + 8) 97 / 10 else 0, recall (num L (i + 9) 7) walk, decide (num L (i + 10) 3 > 0), decide (num L (i + 11) 4 = 1)⟩
theorem phase_any (a : Option Addr) (cap : Nat) (L : List Int) (i : Int) (w : World) (h : IntRow w ⟨a, cap⟩ L) (h0 : 0 ≤ i) (h1 : i ≤ 100000) :
    Calls Try.prog 31 #[.slice a L.length cap, .int .i64 i] w fun e w' => e = .returned (.agg (genPh L i).cells.toArray) ∧ Below w.heap.size w w' := by
  obtain ⟨x0, hx0, ⟨r0, s0⟩, F0⟩ : ∃ x : Int, x = num L i 12 ∧ (0 ≤ x ∧ x < 12) ∧ Hid (∀ W, Below w.heap.size w W → Calls Try.prog 33 #[.slice a L.length cap, .int .i64 i, .int .i64 12] W fun e w' => e = .returned (.int .i64 x) ∧ w' = W) := ⟨_, rfl, num_range _ _ _ (by omega), Lib.hid (fun W hb => (from_any a cap L _ _ W (h.below hb) (by omega) (by omega) (by omega)).mono fun _ _ ⟨e, q⟩ => ⟨e, q.symm⟩)⟩
  obtain ⟨x1, hx1, ⟨r1, s1⟩, F1⟩ : ∃ x : Int, x = num L (i + 1) 9 ∧ (0 ≤ x ∧ x < 9) ∧ Hid (∀ W, Below w.heap.size w W → Calls Try.prog 33 #[.slice a L.length cap, .int .i64 (i + 1), .int .i64 9] W fun e w' => e = .returned (.int .i64 x) ∧ w' = W) := ⟨_, rfl, num_range _ _ _ (by omega), Lib.hid (fun W hb => (from_any a cap L _ _ W (h.below hb) (by omega) (by omega) (by omega)).mono fun _ _ ⟨e, q⟩ => ⟨e, q.symm⟩)⟩
  obtain ⟨x2, hx2, ⟨r2, s2⟩, F2⟩ : ∃ x : Int, x = num L (i + 2) 6 ∧ (0 ≤ x ∧ x < 6) ∧ Hid (∀ W, Below w.heap.size w W → Calls Try.prog 33 #[.slice a L.length cap, .int .i64 (i + 2), .int .i64 6] W fun e w' => e = .returned (.int .i64 x) ∧ w' = W) := ⟨_, rfl, num_range _ _ _ (by omega), Lib.hid (fun W hb => (from_any a cap L _ _ W (h.below hb) (by omega) (by omega) (by omega)).mono fun _ _ ⟨e, q⟩ => ⟨e, q.symm⟩)⟩
  obtain ⟨x3, hx3, ⟨r3, s3⟩, F3⟩ : ∃ x : Int, x = num L (i + 3) 4 ∧ (0 ≤ x ∧ x < 4) ∧ Hid (∀ W, Below w.heap.size w W → Calls Try.prog 33 #[.slice a L.length cap, .int .i64 (i + 3), .int .i64 4] W fun e w' => e = .returned (.int .i64 x) ∧ w' = W) := ⟨_, rfl, num_range _ _ _ (by omega), Lib.hid (fun W hb => (from_any a cap L _ _ W (h.below hb) (by omega) (by omega) (by omega)).mono fun _ _ ⟨e, q⟩ => ⟨e, q.symm⟩)⟩
  obtain ⟨x4, hx4, ⟨r4, s4⟩, F4⟩ : ∃ x : Int, x = num L (i + 4) 5 ∧ (0 ≤ x ∧ x < 5) ∧ Hid (∀ W, Below w.heap.size w W → Calls Try.prog 33 #[.slice a L.length cap, .int .i64 (i + 4), .int .i64 5] W fun e w' => e = .returned (.int .i64 x) ∧ w' = W) := ⟨_, rfl, num_range _ _ _ (by omega), Lib.hid (fun W hb => (from_any a cap L _ _ W (h.below hb) (by omega) (by omega) (by omega)).mono fun _ _ ⟨e, q⟩ => ⟨e, q.symm⟩)⟩
  obtain ⟨x5, hx5, ⟨r5, s5⟩, F5⟩ : ∃ x : Int, x = num L (i + 5) 25 ∧ (0 ≤ x ∧ x < 25) ∧ Hid (∀ W, Below w.heap.size w W → Calls Try.prog 33 #[.slice a L.length cap, .int .i64 (i + 5), .int .i64 25] W fun e w' => e = .returned (.int .i64 x) ∧ w' = W) := ⟨_, rfl, num_range _ _ _ (by omega), Lib.hid (fun W hb => (from_any a cap L _ _ W (h.below hb) (by omega) (by omega) (by omega)).mono fun _ _ ⟨e, q⟩ => ⟨e, q.symm⟩)⟩
  obtain ⟨x6, hx6, ⟨r6, s6⟩, F6⟩ : ∃ x : Int, x = num L (i + 6) 15 ∧ (0 ≤ x ∧ x < 15) ∧ Hid (∀ W, Below w.heap.size w W → Calls Try.prog 33 #[.slice a L.length cap, .int .i64 (i + 6), .int .i64 15] W fun e w' => e = .returned (.int .i64 x) ∧ w' = W) := ⟨_, rfl, num_range _ _ _ (by omega), Lib.hid (fun W hb => (from_any a cap L _ _ W (h.below hb) (by omega) (by omega) (by omega)).mono fun _ _ ⟨e, q⟩ => ⟨e, q.symm⟩)⟩
  obtain ⟨x7, hx7, ⟨r7, s7⟩, F7⟩ : ∃ x : Int, x = num L (i + 7) 2 ∧ (0 ≤ x ∧ x < 2) ∧ Hid (∀ W, Below w.heap.size w W → Calls Try.prog 33 #[.slice a L.length cap, .int .i64 (i + 7), .int .i64 2] W fun e w' => e = .returned (.int .i64 x) ∧ w' = W) := ⟨_, rfl, num_range _ _ _ (by omega), Lib.hid (fun W hb => (from_any a cap L _ _ W (h.below hb) (by omega) (by omega) (by omega)).mono fun _ _ ⟨e, q⟩ => ⟨e, q.symm⟩)⟩
  obtain ⟨x8, hx8, ⟨r8, s8⟩, F8⟩ : ∃ x : Int, x = num L (i + 8) 10 ∧ (0 ≤ x ∧ x < 10) ∧ Hid (∀ W, Below w.heap.size w W → Calls Try.prog 33 #[.slice a L.length cap, .int .i64 (i + 8), .int .i64 10] W fun e w' => e = .returned (.int .i64 x) ∧ w' = W) := ⟨_, rfl, num_range _ _ _ (by omega), Lib.hid (fun W hb => (from_any a cap L _ _ W (h.below hb) (by omega) (by omega) (by omega)).mono fun _ _ ⟨e, q⟩ => ⟨e, q.symm⟩)⟩
  obtain ⟨xb, hxb, ⟨rb, sb⟩, Fb⟩ : ∃ x : Int, x = num L (i + 8) 97 ∧ (0 ≤ x ∧ x < 97) ∧ Hid (∀ W, Below w.heap.size w W → Calls Try.prog 33 #[.slice a L.length cap, .int .i64 (i + 8), .int .i64 97] W fun e w' => e = .returned (.int .i64 x) ∧ w' = W) := ⟨_, rfl, num_range _ _ _ (by omega), Lib.hid (fun W hb => (from_any a cap L _ _ W (h.below hb) (by omega) (by omega) (by omega)).mono fun _ _ ⟨e, q⟩ => ⟨e, q.symm⟩)⟩
  obtain ⟨x9, hx9, ⟨r9, s9⟩, F9⟩ : ∃ x : Int, x = num L (i + 9) 7 ∧ (0 ≤ x ∧ x < 7) ∧ Hid (∀ W, Below w.heap.size w W → Calls Try.prog 33 #[.slice a L.length cap, .int .i64 (i + 9), .int .i64 7] W fun e w' => e = .returned (.int .i64 x) ∧ w' = W) := ⟨_, rfl, num_range _ _ _ (by omega), Lib.hid (fun W hb => (from_any a cap L _ _ W (h.below hb) (by omega) (by omega) (by omega)).mono fun _ _ ⟨e, q⟩ => ⟨e, q.symm⟩)⟩
  obtain ⟨xt, hxt, ⟨rt, st⟩, Ft⟩ : ∃ x : Int, x = num L (i + 10) 3 ∧ (0 ≤ x ∧ x < 3) ∧ Hid (∀ W, Below w.heap.size w W → Calls Try.prog 33 #[.slice a L.length cap, .int .i64 (i + 10), .int .i64 3] W fun e w' => e = .returned (.int .i64 x) ∧ w' = W) := ⟨_, rfl, num_range _ _ _ (by omega), Lib.hid (fun W hb => (from_any a cap L _ _ W (h.below hb) (by omega) (by omega) (by omega)).mono fun _ _ ⟨e, q⟩ => ⟨e, q.symm⟩)⟩
  obtain ⟨xe, hxe, ⟨re, se⟩, Fe⟩ : ∃ x : Int, x = num L (i + 11) 4 ∧ (0 ≤ x ∧ x < 4) ∧ Hid (∀ W, Below w.heap.size w W → Calls Try.prog 33 #[.slice a L.length cap, .int .i64 (i + 11), .int .i64 4] W fun e w' => e = .returned (.int .i64 x) ∧ w' = W) := ⟨_, rfl, num_range _ _ _ (by omega), Lib.hid (fun W hb => (from_any a cap L _ _ W (h.below hb) (by omega) (by omega) (by omega)).mono fun _ _ ⟨e, q⟩ => ⟨e, q.symm⟩)⟩
  have RES : Hid (genPh L i = ⟨true, 1 + x0, x1, 1 + x0 + x5, 1 + x0 + x5 + x6, 1 + x2, 10 + x3, x4, if x7 = 1 then 1 + x8 else 0, if x7 = 1 then 1 + xb / 10 else 0, recall x9 (if x7 = 1 then 1 + x8 else 0), decide (xt > 0), decide (xe = 1)⟩) := Lib.hid (by subst hx0 hx1 hx2 hx3 hx4 hx5 hx6 hx7 hx8 hxb hx9 hxt hxe; rfl)
  generalize genPh L i = R at RES ⊢
  clear hx0 hx1 hx2 hx3 hx4 hx5 hx6 hx7 hx8 hxb hx9 hxt hxe h
  have hz := (zero_of_info infoPz).1
  have HB : Hid (Below w.heap.size w (w.alloc (.cells zPh.cells.toArray 23))) := Lib.hid ((Below.refl _ _).alloc (Nat.le_refl _) _)
  have hg := heap_alloc_new w (.cells zPh.cells.toArray 23)
  have hs : (w.alloc (.cells zPh.cells.toArray 23)).heap.size = w.heap.size + 1 := by simp
  have HG := Lib.hid hg
  have HS := Lib.hid hs
  clear hg hs
  simp only [zPh, Ph.cells] at hz HB HG HS
  go_enter Try.func31, Try.ntmps31
  go_upto_region 1 with fail
  generalize (World.alloc w _) = u at HB HG HS ⊢
  go_wp2_with fail
  refine (F0.out _ HB.out).mono ?_
  rintro e w' ⟨rfl, hq⟩
  subst w'
  go_wp2_with fail
  refine (F1.out _ HB.out).mono ?_
  rintro e w' ⟨rfl, hq⟩
  subst w'
  go_wp2_with fail
  refine (F2.out _ HB.out).mono ?_
  rintro e w' ⟨rfl, hq⟩
  subst w'
  go_wp2_with fail
  refine (F3.out _ HB.out).mono ?_
  rintro e w' ⟨rfl, hq⟩
  subst w'
  go_wp2_with fail
  refine (F4.out _ HB.out).mono ?_
  rintro e w' ⟨rfl, hq⟩
  subst w'
  go_upto_region 2 with (refine Row.wpList_store_new rfl 23 _ _ rfl u _ #[.bool true, I (1 + x0), I x1, I 0, I 0, I (1 + x2), I (10 + x3), I x4, I 0, I 0, I 0, .bool false, .bool false] rfl rfl rfl infoP rfl (by simp [Value.oneCell']) ?_)
  (try dsimp only [Act.put])
  have hb := HB.out.alloc HB.out.size (.cells #[.bool true, I (1 + x0), I x1, I 0, I 0, I (1 + x2), I (10 + x3), I x4, I 0, I 0, I 0, .bool false, .bool false] 23)
  have g5 := heap_alloc_new u (.cells #[.bool true, I (1 + x0), I x1, I 0, I 0, I (1 + x2), I (10 + x3), I x4, I 0, I 0, I 0, .bool false, .bool false] 23)
  have g4 := (Below.heap_alloc u (.cells #[.bool true, I (1 + x0), I x1, I 0, I 0, I (1 + x2), I (10 + x3), I x4, I 0, I 0, I 0, .bool false, .bool false] 23) w.heap.size (by have := HS.out; omega)).trans HG.out
  have b5lt : w.heap.size < u.heap.size := by have := HS.out; omega
  clear HB HG HS
  generalize World.alloc u _ = u0 at g4 g5 hb ⊢
  generalize u.heap.size = b5 at g5 b5lt ⊢
  have G4 := Lib.hid g4
  have G5 := Lib.hid g5
  have HB := Lib.hid hb
  clear g4 g5 hb
  have e0 : IntKind.i64.wrap (i + 5) = i + 5 := by rw [IntKind.wrap_i64]; omega
  have e1 : IntKind.i64.wrap (1 + x0 + x5) = 1 + x0 + x5 := by rw [IntKind.wrap_i64]; omega
  have g4 : u0.drew.heap[w.heap.size]? = some (.cells #[.bool false, .int .i64 0, .int .i64 0, .int .i64 0, .int .i64 0, .int .i64 0, .int .i64 0, .int .i64 0, .int .i64 0, .int .i64 0, .int .i64 0, .bool false, .bool false] 23 (0, 0)) := G4.out
  have g5 : u0.drew.heap[b5]? = some (.cells #[.bool true, I (1 + x0), I x1, I 0, I 0, I (1 + x2), I (10 + x3), I x4, I 0, I 0, I 0, .bool false, .bool false] 23 (0, 0)) := G5.out
  have hb : Below w.heap.size w u0.drew := HB.out.drew
  clear G4 G5 HB
  refine QB.region_tail 8 (by kernel_rfl) (by kernel_rfl) ?_
  generalize World.drew u0 = u1 at g4 g5 hb ⊢
  have G4 := Lib.hid g4
  have G5 := Lib.hid g5
  have HB := Lib.hid hb
  clear g4 g5 hb
  have c1 : u1.cell? ⟨b5, 1, none⟩ = some (I (1 + x0)) := by rw [cell_of_row _ _ _ _ _ _ G5.out]; rfl
  have c3 : u1.cell? ⟨b5, 3, none⟩ = some (I 0) := by rw [cell_of_row _ _ _ _ _ _ G5.out]; rfl
  have f3 : u1.frozen? ⟨b5, 3, none⟩ = false := frozen_of_row _ _ _ _ _ G5.out
  simp only [List.take_succ_cons, List.take_zero, List.drop_succ_cons, List.drop_zero]
  repeat still_step
  still_call (F5.out _ HB.out)
  repeat still_step
  refine wpStill_nil ?_
  go_upto_region 3 with fail
  clear e0 e1
  have g5 := heap_setCell_same u1 b5 3 _ _ (I (1 + x0 + x5)) G5.out
  simp only [List.setIfInBounds_toArray, List.set_cons_succ, List.set_cons_zero] at g5
  have g4 := (Below.heap_setCell u1 ⟨b5, 3, none⟩ (I (1 + x0 + x5)) w.heap.size (by simp; omega)).trans G4.out
  have hb := Owned.below_write HB.out (g := b5) (i := 3) (by omega) (I (1 + x0 + x5))
  clear c1 c3 f3 G4 G5 HB
  generalize World.setCell u1 ⟨b5, 3, none⟩ (I (1 + x0 + x5)) = u2 at g4 g5 hb ⊢
  have G4 := Lib.hid g4
  have G5 := Lib.hid g5
  have HB := Lib.hid hb
  clear g4 g5 hb
  have e0 : IntKind.i64.wrap (i + 6) = i + 6 := by rw [IntKind.wrap_i64]; omega
  have e1 : IntKind.i64.wrap (1 + x0 + x5 + x6) = 1 + x0 + x5 + x6 := by rw [IntKind.wrap_i64]; omega
  have g4 : u2.drew.heap[w.heap.size]? = some (.cells #[.bool false, .int .i64 0, .int .i64 0, .int .i64 0, .int .i64 0, .int .i64 0, .int .i64 0, .int .i64 0, .int .i64 0, .int .i64 0, .int .i64 0, .bool false, .bool false] 23 (0, 0)) := G4.out
  have g5 : u2.drew.heap[b5]? = some (.cells #[.bool true, I (1 + x0), I x1, I (1 + x0 + x5), I 0, I (1 + x2), I (10 + x3), I x4, I 0, I 0, I 0, .bool false, .bool false] 23 (0, 0)) := G5.out
  have hb : Below w.heap.size w u2.drew := HB.out.drew
  clear G4 G5 HB
  refine QB.region_tail 8 (by kernel_rfl) (by kernel_rfl) ?_
  generalize World.drew u2 = u3 at g4 g5 hb ⊢
  have G4 := Lib.hid g4
  have G5 := Lib.hid g5
  have HB := Lib.hid hb
  clear g4 g5 hb
  have c3 : u3.cell? ⟨b5, 3, none⟩ = some (I (1 + x0 + x5)) := by rw [cell_of_row _ _ _ _ _ _ G5.out]; rfl
  have c4 : u3.cell? ⟨b5, 4, none⟩ = some (I 0) := by rw [cell_of_row _ _ _ _ _ _ G5.out]; rfl
  have f4 : u3.frozen? ⟨b5, 4, none⟩ = false := frozen_of_row _ _ _ _ _ G5.out
  simp only [List.take_succ_cons, List.take_zero, List.drop_succ_cons, List.drop_zero]
  repeat still_step
  still_call (F6.out _ HB.out)
  repeat still_step
  refine wpStill_nil ?_
  go_upto_region 4 with fail
  clear e0 e1
  have g5 := heap_setCell_same u3 b5 4 _ _ (I (1 + x0 + x5 + x6)) G5.out
  simp only [List.setIfInBounds_toArray, List.set_cons_succ, List.set_cons_zero] at g5
  have g4 := (Below.heap_setCell u3 ⟨b5, 4, none⟩ (I (1 + x0 + x5 + x6)) w.heap.size (by simp; omega)).trans G4.out
  have hb := Owned.below_write HB.out (g := b5) (i := 4) (by omega) (I (1 + x0 + x5 + x6))
  clear c3 c4 f4 G4 G5 HB
  generalize World.setCell u3 ⟨b5, 4, none⟩ (I (1 + x0 + x5 + x6)) = u4 at g4 g5 hb ⊢
  have G4 := Lib.hid g4
  have G5 := Lib.hid g5
  have HB := Lib.hid hb
  clear g4 g5 hb
  go_wp2_with fail
  refine (F7.out _ HB.out).mono ?_
  rintro e w' ⟨rfl, hq⟩
  subst w'
  by_cases h7 : x7 = 1
  · have H7 := Lib.hid h7
    have e7 : (x7 == 1) = true := by simpa using h7
    clear h7
    go_upto_region 5 with fail
    have c8 : u4.cell? ⟨b5, 8, none⟩ = some (I 0) := by rw [cell_of_row _ _ _ _ _ _ G5.out]; rfl
    have f8 : u4.frozen? ⟨b5, 8, none⟩ = false := frozen_of_row _ _ _ _ _ G5.out
    go_wp2_with fail
    refine (F8.out _ HB.out).mono ?_
    rintro e w' ⟨rfl, hq⟩
    subst w'
    go_upto_region 6 with fail
    have g5 := heap_setCell_same u4 b5 8 _ _ (I (1 + x8)) G5.out
    simp only [List.setIfInBounds_toArray, List.set_cons_succ, List.set_cons_zero] at g5
    have g4 := (Below.heap_setCell u4 ⟨b5, 8, none⟩ (I (1 + x8)) w.heap.size (by simp; omega)).trans G4.out
    have hb := Owned.below_write HB.out (g := b5) (i := 8) (by omega) (I (1 + x8))
    clear c8 f8 G4 G5 HB
    generalize World.setCell u4 ⟨b5, 8, none⟩ (I (1 + x8)) = u5 at g4 g5 hb ⊢
    have G4 := Lib.hid g4
    have G5 := Lib.hid g5
    have HB := Lib.hid hb
    clear g4 g5 hb
    have c9 : u5.cell? ⟨b5, 9, none⟩ = some (I 0) := by rw [cell_of_row _ _ _ _ _ _ G5.out]; rfl
    have f9 : u5.frozen? ⟨b5, 9, none⟩ = false := frozen_of_row _ _ _ _ _ G5.out
    go_wp2_with fail
    refine (Fb.out _ HB.out).mono ?_
    rintro e w' ⟨rfl, hq⟩
    subst w'
    go_upto_region 7 with fail
    have g5 := heap_setCell_same u5 b5 9 _ _ (I (1 + xb / 10)) G5.out
    simp only [List.setIfInBounds_toArray, List.set_cons_succ, List.set_cons_zero] at g5
    have g4 := (Below.heap_setCell u5 ⟨b5, 9, none⟩ (I (1 + xb / 10)) w.heap.size (by simp; omega)).trans G4.out
    have hb := Owned.below_write HB.out (g := b5) (i := 9) (by omega) (I (1 + xb / 10))
    clear c9 f9 G4 G5 HB
    generalize World.setCell u5 ⟨b5, 9, none⟩ (I (1 + xb / 10)) = u6 at g4 g5 hb ⊢
    have G4 := Lib.hid g4
    have G5 := Lib.hid g5
    have HB := Lib.hid hb
    clear g4 g5 hb
    have c10 : u6.cell? ⟨b5, 10, none⟩ = some (I 0) := by rw [cell_of_row _ _ _ _ _ _ G5.out]; rfl
    have f10 : u6.frozen? ⟨b5, 10, none⟩ = false := frozen_of_row _ _ _ _ _ G5.out
    go_wp2_with fail
    refine (F9.out _ HB.out).mono ?_
    rintro e w' ⟨rfl, hq⟩
    subst w'
    go_upto_region 8 with fail
    have g5 := heap_setCell_same u6 b5 10 _ _ (I x9) G5.out
    simp only [List.setIfInBounds_toArray, List.set_cons_succ, List.set_cons_zero] at g5
    have g4 := (Below.heap_setCell u6 ⟨b5, 10, none⟩ (I x9) w.heap.size (by simp; omega)).trans G4.out
    have hb := Owned.below_write HB.out (g := b5) (i := 10) (by omega) (I x9)
    clear c10 f10 G4 G5 HB
    generalize World.setCell u6 ⟨b5, 10, none⟩ (I x9) = u7 at g4 g5 hb ⊢
    have G4 := Lib.hid g4
    have G5 := Lib.hid g5
    have HB := Lib.hid hb
    clear g4 g5 hb
    have c8 : u7.cell? ⟨b5, 8, none⟩ = some (I (1 + x8)) := by rw [cell_of_row _ _ _ _ _ _ G5.out]; rfl
    have c10 : u7.cell? ⟨b5, 10, none⟩ = some (I x9) := by rw [cell_of_row _ _ _ _ _ _ G5.out]; rfl
    have f10 : u7.frozen? ⟨b5, 10, none⟩ = false := frozen_of_row _ _ _ _ _ G5.out
    by_cases h9 : x9 > 3
    · have RC : Hid (recall x9 (1 + x8) = 0) := Lib.hid (by unfold recall; rw [if_pos (by omega)])
      have H9 := Lib.hid h9
      have q9 : ¬ (x9 ≤ 3) := by omega
      go_upto_region 10 with fail
      have g5 := heap_setCell_same u7 b5 10 _ _ (I 0) G5.out
      simp only [List.setIfInBounds_toArray, List.set_cons_succ, List.set_cons_zero] at g5
      have g4 := (Below.heap_setCell u7 ⟨b5, 10, none⟩ (I 0) w.heap.size (by simp; omega)).trans G4.out
      have hb := Owned.below_write HB.out (g := b5) (i := 10) (by omega) (I 0)
      clear c8 c10 f10 G4 G5 HB
      generalize World.setCell u7 ⟨b5, 10, none⟩ (I 0) = u8 at g4 g5 hb ⊢
      have G4 := Lib.hid g4
      have G5 := Lib.hid g5
      have HB := Lib.hid hb
      clear g4 g5 hb
      have c11 : u8.cell? ⟨b5, 11, none⟩ = some (.bool false) := by rw [cell_of_row _ _ _ _ _ _ G5.out]; rfl
      have f11 : u8.frozen? ⟨b5, 11, none⟩ = false := frozen_of_row _ _ _ _ _ G5.out
      go_wp2_with fail
      refine (Ft.out _ HB.out).mono ?_
      rintro e w' ⟨rfl, hq⟩
      subst w'
      go_upto_region 11 with fail
      have g5 := heap_setCell_same u8 b5 11 _ _ (.bool (decide (xt > 0))) G5.out
      simp only [List.setIfInBounds_toArray, List.set_cons_succ, List.set_cons_zero] at g5
      have g4 := (Below.heap_setCell u8 ⟨b5, 11, none⟩ (.bool (decide (xt > 0))) w.heap.size (by simp; omega)).trans G4.out
      have hb := Owned.below_write HB.out (g := b5) (i := 11) (by omega) (.bool (decide (xt > 0)))
      clear c11 f11 G4 G5 HB
      generalize World.setCell u8 ⟨b5, 11, none⟩ (.bool (decide (xt > 0))) = u9 at g4 g5 hb ⊢
      have G4 := Lib.hid g4
      have G5 := Lib.hid g5
      have HB := Lib.hid hb
      clear g4 g5 hb
      have c12 : u9.cell? ⟨b5, 12, none⟩ = some (.bool false) := by rw [cell_of_row _ _ _ _ _ _ G5.out]; rfl
      have f12 : u9.frozen? ⟨b5, 12, none⟩ = false := frozen_of_row _ _ _ _ _ G5.out
      go_wp2_with fail
      refine (Fe.out _ HB.out).mono ?_
      rintro e w' ⟨rfl, hq⟩
      subst w'
      go_upto_region 12 with fail
      have g5 := heap_setCell_same u9 b5 12 _ _ (.bool (decide (xe = 1))) G5.out
      simp only [List.setIfInBounds_toArray, List.set_cons_succ, List.set_cons_zero] at g5
      have g4 := (Below.heap_setCell u9 ⟨b5, 12, none⟩ (.bool (decide (xe = 1))) w.heap.size (by simp; omega)).trans G4.out
      have hb := Owned.below_write HB.out (g := b5) (i := 12) (by omega) (.bool (decide (xe = 1)))
      clear c12 f12 G4 G5 HB
      generalize World.setCell u9 ⟨b5, 12, none⟩ (.bool (decide (xe = 1))) = u10 at g4 g5 hb ⊢
      have G4 := Lib.hid g4
      have G5 := Lib.hid g5
      have HB := Lib.hid hb
      clear g4 g5 hb
      have FIN : Hid (R.cells.toArray = #[.bool true, I (1 + x0), I x1, I (1 + x0 + x5), I (1 + x0 + x5 + x6), I (1 + x2), I (10 + x3), I x4, I (1 + x8), I (1 + xb / 10), I 0, .bool (decide (xt > 0)), .bool (decide (xe = 1))]) := Lib.hid (by rw [RES.out]; simp only [Ph.cells, if_pos H7.out, RC.out])
      have LV : Hid (Lies u10 ⟨b5, 0, none⟩ #[.bool true, I (1 + x0), I x1, I (1 + x0 + x5), I (1 + x0 + x5 + x6), I (1 + x2), I (10 + x3), I x4, I (1 + x8), I (1 + xb / 10), I 0, .bool (decide (xt > 0)), .bool (decide (xe = 1))].toList) := Lib.hid (Row.lies_of_block G5.out)
      have HG := Lib.hid (below_setRow HB.out (g := w.heap.size) (Nat.le_refl _) #[.bool true, I (1 + x0), I x1, I (1 + x0 + x5), I (1 + x0 + x5 + x6), I (1 + x2), I (10 + x3), I x4, I (1 + x8), I (1 + xb / 10), I 0, .bool (decide (xt > 0)), .bool (decide (xe = 1))])
      have HK := Lib.hid (setRow_heap u10 w.heap.size _ #[.bool true, I (1 + x0), I x1, I (1 + x0 + x5), I (1 + x0 + x5 + x6), I (1 + x2), I (10 + x3), I x4, I (1 + x8), I (1 + xb / 10), I 0, .bool (decide (xt > 0)), .bool (decide (xe = 1))] _ _ G4.out)
      go_wp2_with (first | (refine Row.wpList_load_g 23 _ rfl (by first | rfl | go_simp) ⟨b5, 0, none⟩ rfl #[.bool true, I (1 + x0), I x1, I (1 + x0 + x5), I (1 + x0 + x5 + x6), I (1 + x2), I (10 + x3), I x4, I (1 + x8), I (1 + xb / 10), I 0, .bool (decide (xt > 0)), .bool (decide (xe = 1))].toList _ LV.out Try.underlying23 rfl infoP ?_) | (refine wpList_store_row rfl 23 _ _ rfl w.heap.size #[.bool true, I (1 + x0), I x1, I (1 + x0 + x5), I (1 + x0 + x5 + x6), I (1 + x2), I (10 + x3), I x4, I (1 + x8), I (1 + xb / 10), I 0, .bool (decide (xt > 0)), .bool (decide (xe = 1))] rfl rfl 23 _ G4.out infoP rfl (by simp [Value.oneCell']) ?_))
      generalize u10.setRow w.heap.size #[.bool true, I (1 + x0), I x1, I (1 + x0 + x5), I (1 + x0 + x5 + x6), I (1 + x2), I (10 + x3), I x4, I (1 + x8), I (1 + xb / 10), I 0, .bool (decide (xt > 0)), .bool (decide (xe = 1))] = uz at HG HK ⊢
      go_wp2_with fail
      (try simp only [Exit.inBlock, Exit.then])
      refine bodyPost_ret (v := .agg #[.bool true, I (1 + x0), I x1, I (1 + x0 + x5), I (1 + x0 + x5 + x6), I (1 + x2), I (10 + x3), I x4, I (1 + x8), I (1 + xb / 10), I 0, .bool (decide (xt > 0)), .bool (decide (xe = 1))]) ?_ rfl ⟨by rw [FIN.out], HG.out⟩
      exact results_cell_row rfl _ _ w.heap.size 23 _ (0, 0) _ rfl HK.out Try.underlying23 rfl infoP
    · have RC : Hid (recall x9 (1 + x8) = x9) := Lib.hid (by unfold recall; rw [if_neg (by omega)])
      have H9 := Lib.hid h9
      have q9 : x9 ≤ 3 := by omega
      have q8 : (1 + x8 == 0) = false := by rw [beq_eq_false_iff_ne]; omega
      have Q8 := Lib.hid (show ¬ (1 + x8 = 0) from by omega)
      by_cases h3 : x9 = 3
      · have e3 : (x9 == 3) = true := by simpa using h3
        clear h3 h9
        go_upto_region 10 with fail
        clear c8 c10 f10 e3 q8
        have c11 : u7.cell? ⟨b5, 11, none⟩ = some (.bool false) := by rw [cell_of_row _ _ _ _ _ _ G5.out]; rfl
        have f11 : u7.frozen? ⟨b5, 11, none⟩ = false := frozen_of_row _ _ _ _ _ G5.out
        go_wp2_with fail
        refine (Ft.out _ HB.out).mono ?_
        rintro e w' ⟨rfl, hq⟩
        subst w'
        go_upto_region 11 with fail
        have g5 := heap_setCell_same u7 b5 11 _ _ (.bool (decide (xt > 0))) G5.out
        simp only [List.setIfInBounds_toArray, List.set_cons_succ, List.set_cons_zero] at g5
        have g4 := (Below.heap_setCell u7 ⟨b5, 11, none⟩ (.bool (decide (xt > 0))) w.heap.size (by simp; omega)).trans G4.out
        have hb := Owned.below_write HB.out (g := b5) (i := 11) (by omega) (.bool (decide (xt > 0)))
        clear c11 f11 G4 G5 HB
        generalize World.setCell u7 ⟨b5, 11, none⟩ (.bool (decide (xt > 0))) = u8 at g4 g5 hb ⊢
        have G4 := Lib.hid g4
        have G5 := Lib.hid g5
        have HB := Lib.hid hb
        clear g4 g5 hb
        have c12 : u8.cell? ⟨b5, 12, none⟩ = some (.bool false) := by rw [cell_of_row _ _ _ _ _ _ G5.out]; rfl
        have f12 : u8.frozen? ⟨b5, 12, none⟩ = false := frozen_of_row _ _ _ _ _ G5.out
        go_wp2_with fail
        refine (Fe.out _ HB.out).mono ?_
        rintro e w' ⟨rfl, hq⟩
        subst w'
        go_upto_region 12 with fail
        have g5 := heap_setCell_same u8 b5 12 _ _ (.bool (decide (xe = 1))) G5.out
        simp only [List.setIfInBounds_toArray, List.set_cons_succ, List.set_cons_zero] at g5
        have g4 := (Below.heap_setCell u8 ⟨b5, 12, none⟩ (.bool (decide (xe = 1))) w.heap.size (by simp; omega)).trans G4.out
        have hb := Owned.below_write HB.out (g := b5) (i := 12) (by omega) (.bool (decide (xe = 1)))
        clear c12 f12 G4 G5 HB
        generalize World.setCell u8 ⟨b5, 12, none⟩ (.bool (decide (xe = 1))) = u9 at g4 g5 hb ⊢
        have G4 := Lib.hid g4
        have G5 := Lib.hid g5
        have HB := Lib.hid hb
        clear g4 g5 hb
        have FIN : Hid (R.cells.toArray = #[.bool true, I (1 + x0), I x1, I (1 + x0 + x5), I (1 + x0 + x5 + x6), I (1 + x2), I (10 + x3), I x4, I (1 + x8), I (1 + xb / 10), I x9, .bool (decide (xt > 0)), .bool (decide (xe = 1))]) := Lib.hid (by rw [RES.out]; simp only [Ph.cells, if_pos H7.out, RC.out])
        have LV : Hid (Lies u9 ⟨b5, 0, none⟩ #[.bool true, I (1 + x0), I x1, I (1 + x0 + x5), I (1 + x0 + x5 + x6), I (1 + x2), I (10 + x3), I x4, I (1 + x8), I (1 + xb / 10), I x9, .bool (decide (xt > 0)), .bool (decide (xe = 1))].toList) := Lib.hid (Row.lies_of_block G5.out)
        have HG := Lib.hid (below_setRow HB.out (g := w.heap.size) (Nat.le_refl _) #[.bool true, I (1 + x0), I x1, I (1 + x0 + x5), I (1 + x0 + x5 + x6), I (1 + x2), I (10 + x3), I x4, I (1 + x8), I (1 + xb / 10), I x9, .bool (decide (xt > 0)), .bool (decide (xe = 1))])
        have HK := Lib.hid (setRow_heap u9 w.heap.size _ #[.bool true, I (1 + x0), I x1, I (1 + x0 + x5), I (1 + x0 + x5 + x6), I (1 + x2), I (10 + x3), I x4, I (1 + x8), I (1 + xb / 10), I x9, .bool (decide (xt > 0)), .bool (decide (xe = 1))] _ _ G4.out)
        go_wp2_with (first | (refine Row.wpList_load_g 23 _ rfl (by first | rfl | go_simp) ⟨b5, 0, none⟩ rfl #[.bool true, I (1 + x0), I x1, I (1 + x0 + x5), I (1 + x0 + x5 + x6), I (1 + x2), I (10 + x3), I x4, I (1 + x8), I (1 + xb / 10), I x9, .bool (decide (xt > 0)), .bool (decide (xe = 1))].toList _ LV.out Try.underlying23 rfl infoP ?_) | (refine wpList_store_row rfl 23 _ _ rfl w.heap.size #[.bool true, I (1 + x0), I x1, I (1 + x0 + x5), I (1 + x0 + x5 + x6), I (1 + x2), I (10 + x3), I x4, I (1 + x8), I (1 + xb / 10), I x9, .bool (decide (xt > 0)), .bool (decide (xe = 1))] rfl rfl 23 _ G4.out infoP rfl (by simp [Value.oneCell']) ?_))
        generalize u9.setRow w.heap.size #[.bool true, I (1 + x0), I x1, I (1 + x0 + x5), I (1 + x0 + x5 + x6), I (1 + x2), I (10 + x3), I x4, I (1 + x8), I (1 + xb / 10), I x9, .bool (decide (xt > 0)), .bool (decide (xe = 1))] = uz at HG HK ⊢
        go_wp2_with fail
        (try simp only [Exit.inBlock, Exit.then])
        refine bodyPost_ret (v := .agg #[.bool true, I (1 + x0), I x1, I (1 + x0 + x5), I (1 + x0 + x5 + x6), I (1 + x2), I (10 + x3), I x4, I (1 + x8), I (1 + xb / 10), I x9, .bool (decide (xt > 0)), .bool (decide (xe = 1))]) ?_ rfl ⟨by rw [FIN.out], HG.out⟩
        exact results_cell_row rfl _ _ w.heap.size 23 _ (0, 0) _ rfl HK.out Try.underlying23 rfl infoP
      · have e3 : (x9 == 3) = false := by simpa using h3
        clear h3 h9
        go_upto_region 10 with fail
        clear c8 c10 f10 e3 q8
        have c11 : u7.cell? ⟨b5, 11, none⟩ = some (.bool false) := by rw [cell_of_row _ _ _ _ _ _ G5.out]; rfl
        have f11 : u7.frozen? ⟨b5, 11, none⟩ = false := frozen_of_row _ _ _ _ _ G5.out
        go_wp2_with fail
        refine (Ft.out _ HB.out).mono ?_
        rintro e w' ⟨rfl, hq⟩
        subst w'
        go_upto_region 11 with fail
        have g5 := heap_setCell_same u7 b5 11 _ _ (.bool (decide (xt > 0))) G5.out
        simp only [List.setIfInBounds_toArray, List.set_cons_succ, List.set_cons_zero] at g5
        have g4 := (Below.heap_setCell u7 ⟨b5, 11, none⟩ (.bool (decide (xt > 0))) w.heap.size (by simp; omega)).trans G4.out
        have hb := Owned.below_write HB.out (g := b5) (i := 11) (by omega) (.bool (decide (xt > 0)))
        clear c11 f11 G4 G5 HB
        generalize World.setCell u7 ⟨b5, 11, none⟩ (.bool (decide (xt > 0))) = u8 at g4 g5 hb ⊢
        have G4 := Lib.hid g4
        have G5 := Lib.hid g5
        have HB := Lib.hid hb
        clear g4 g5 hb
        have c12 : u8.cell? ⟨b5, 12, none⟩ = some (.bool false) := by rw [cell_of_row _ _ _ _ _ _ G5.out]; rfl
        have f12 : u8.frozen? ⟨b5, 12, none⟩ = false := frozen_of_row _ _ _ _ _ G5.out
        go_wp2_with fail
        refine (Fe.out _ HB.out).mono ?_
        rintro e w' ⟨rfl, hq⟩
        subst w'
        go_upto_region 12 with fail
        have g5 := heap_setCell_same u8 b5 12 _ _ (.bool (decide (xe = 1))) G5.out
        simp only [List.setIfInBounds_toArray, List.set_cons_succ, List.set_cons_zero] at g5
        have g4 := (Below.heap_setCell u8 ⟨b5, 12, none⟩ (.bool (decide (xe = 1))) w.heap.size (by simp; omega)).trans G4.out
        have hb := Owned.below_write HB.out (g := b5) (i := 12) (by omega) (.bool (decide (xe = 1)))
        clear c12 f12 G4 G5 HB
        generalize World.setCell u8 ⟨b5, 12, none⟩ (.bool (decide (xe = 1))) = u9 at g4 g5 hb ⊢
        have G4 := Lib.hid g4
        have G5 := Lib.hid g5
        have HB := Lib.hid hb
        clear g4 g5 hb
        have FIN : Hid (R.cells.toArray = #[.bool true, I (1 + x0), I x1, I (1 + x0 + x5), I (1 + x0 + x5 + x6), I (1 + x2), I (10 + x3), I x4, I (1 + x8), I (1 + xb / 10), I x9, .bool (decide (xt > 0)), .bool (decide (xe = 1))]) := Lib.hid (by rw [RES.out]; simp only [Ph.cells, if_pos H7.out, RC.out])
        have LV : Hid (Lies u9 ⟨b5, 0, none⟩ #[.bool true, I (1 + x0), I x1, I (1 + x0 + x5), I (1 + x0 + x5 + x6), I (1 + x2), I (10 + x3), I x4, I (1 + x8), I (1 + xb / 10), I x9, .bool (decide (xt > 0)), .bool (decide (xe = 1))].toList) := Lib.hid (Row.lies_of_block G5.out)
        have HG := Lib.hid (below_setRow HB.out (g := w.heap.size) (Nat.le_refl _) #[.bool true, I (1 + x0), I x1, I (1 + x0 + x5), I (1 + x0 + x5 + x6), I (1 + x2), I (10 + x3), I x4, I (1 + x8), I (1 + xb / 10), I x9, .bool (decide (xt > 0)), .bool (decide (xe = 1))])
        have HK := Lib.hid (setRow_heap u9 w.heap.size _ #[.bool true, I (1 + x0), I x1, I (1 + x0 + x5), I (1 + x0 + x5 + x6), I (1 + x2), I (10 + x3), I x4, I (1 + x8), I (1 + xb / 10), I x9, .bool (decide (xt > 0)), .bool (decide (xe = 1))] _ _ G4.out)
        go_wp2_with (first | (refine Row.wpList_load_g 23 _ rfl (by first | rfl | go_simp) ⟨b5, 0, none⟩ rfl #[.bool true, I (1 + x0), I x1, I (1 + x0 + x5), I (1 + x0 + x5 + x6), I (1 + x2), I (10 + x3), I x4, I (1 + x8), I (1 + xb / 10), I x9, .bool (decide (xt > 0)), .bool (decide (xe = 1))].toList _ LV.out Try.underlying23 rfl infoP ?_) | (refine wpList_store_row rfl 23 _ _ rfl w.heap.size #[.bool true, I (1 + x0), I x1, I (1 + x0 + x5), I (1 + x0 + x5 + x6), I (1 + x2), I (10 + x3), I x4, I (1 + x8), I (1 + xb / 10), I x9, .bool (decide (xt > 0)), .bool (decide (xe = 1))] rfl rfl 23 _ G4.out infoP rfl (by simp [Value.oneCell']) ?_))
        generalize u9.setRow w.heap.size #[.bool true, I (1 + x0), I x1, I (1 + x0 + x5), I (1 + x0 + x5 + x6), I (1 + x2), I (10 + x3), I x4, I (1 + x8), I (1 + xb / 10), I x9, .bool (decide (xt > 0)), .bool (decide (xe = 1))] = uz at HG HK ⊢
        go_wp2_with fail
        (try simp only [Exit.inBlock, Exit.then])
        refine bodyPost_ret (v := .agg #[.bool true, I (1 + x0), I x1, I (1 + x0 + x5), I (1 + x0 + x5 + x6), I (1 + x2), I (10 + x3), I x4, I (1 + x8), I (1 + xb / 10), I x9, .bool (decide (xt > 0)), .bool (decide (xe = 1))]) ?_ rfl ⟨by rw [FIN.out], HG.out⟩
        exact results_cell_row rfl _ _ w.heap.size 23 _ (0, 0) _ rfl HK.out Try.underlying23 rfl infoP
  · have H7 := Lib.hid h7
    have e7 : (x7 == 1) = false := by simpa using h7
    clear h7
    go_upto_region 7 with fail
    have c10 : u4.cell? ⟨b5, 10, none⟩ = some (I 0) := by rw [cell_of_row _ _ _ _ _ _ G5.out]; rfl
    have f10 : u4.frozen? ⟨b5, 10, none⟩ = false := frozen_of_row _ _ _ _ _ G5.out
    go_wp2_with fail
    refine (F9.out _ HB.out).mono ?_
    rintro e w' ⟨rfl, hq⟩
    subst w'
    go_upto_region 8 with fail
    have g5 := heap_setCell_same u4 b5 10 _ _ (I x9) G5.out
    simp only [List.setIfInBounds_toArray, List.set_cons_succ, List.set_cons_zero] at g5
    have g4 := (Below.heap_setCell u4 ⟨b5, 10, none⟩ (I x9) w.heap.size (by simp; omega)).trans G4.out
    have hb := Owned.below_write HB.out (g := b5) (i := 10) (by omega) (I x9)
    clear c10 f10 G4 G5 HB
    generalize World.setCell u4 ⟨b5, 10, none⟩ (I x9) = u5 at g4 g5 hb ⊢
    have G4 := Lib.hid g4
    have G5 := Lib.hid g5
    have HB := Lib.hid hb
    clear g4 g5 hb
    have c8 : u5.cell? ⟨b5, 8, none⟩ = some (I 0) := by rw [cell_of_row _ _ _ _ _ _ G5.out]; rfl
    have c10 : u5.cell? ⟨b5, 10, none⟩ = some (I x9) := by rw [cell_of_row _ _ _ _ _ _ G5.out]; rfl
    have f10 : u5.frozen? ⟨b5, 10, none⟩ = false := frozen_of_row _ _ _ _ _ G5.out
    by_cases h9 : x9 > 3
    · have RC : Hid (recall x9 (0) = 0) := Lib.hid (by unfold recall; rw [if_pos (by omega)])
      have H9 := Lib.hid h9
      have q9 : ¬ (x9 ≤ 3) := by omega
      go_upto_region 10 with fail
      have g5 := heap_setCell_same u5 b5 10 _ _ (I 0) G5.out
      simp only [List.setIfInBounds_toArray, List.set_cons_succ, List.set_cons_zero] at g5
      have g4 := (Below.heap_setCell u5 ⟨b5, 10, none⟩ (I 0) w.heap.size (by simp; omega)).trans G4.out
      have hb := Owned.below_write HB.out (g := b5) (i := 10) (by omega) (I 0)
      clear c8 c10 f10 G4 G5 HB
      generalize World.setCell u5 ⟨b5, 10, none⟩ (I 0) = u6 at g4 g5 hb ⊢
      have G4 := Lib.hid g4
      have G5 := Lib.hid g5
      have HB := Lib.hid hb
      clear g4 g5 hb
      have c11 : u6.cell? ⟨b5, 11, none⟩ = some (.bool false) := by rw [cell_of_row _ _ _ _ _ _ G5.out]; rfl
      have f11 : u6.frozen? ⟨b5, 11, none⟩ = false := frozen_of_row _ _ _ _ _ G5.out
      go_wp2_with fail
      refine (Ft.out _ HB.out).mono ?_
      rintro e w' ⟨rfl, hq⟩
      subst w'
      go_upto_region 11 with fail
      have g5 := heap_setCell_same u6 b5 11 _ _ (.bool (decide (xt > 0))) G5.out
      simp only [List.setIfInBounds_toArray, List.set_cons_succ, List.set_cons_zero] at g5
      have g4 := (Below.heap_setCell u6 ⟨b5, 11, none⟩ (.bool (decide (xt > 0))) w.heap.size (by simp; omega)).trans G4.out
      have hb := Owned.below_write HB.out (g := b5) (i := 11) (by omega) (.bool (decide (xt > 0)))
      clear c11 f11 G4 G5 HB
      generalize World.setCell u6 ⟨b5, 11, none⟩ (.bool (decide (xt > 0))) = u7 at g4 g5 hb ⊢
      have G4 := Lib.hid g4
      have G5 := Lib.hid g5
      have HB := Lib.hid hb
      clear g4 g5 hb
      have c12 : u7.cell? ⟨b5, 12, none⟩ = some (.bool false) := by rw [cell_of_row _ _ _ _ _ _ G5.out]; rfl
      have f12 : u7.frozen? ⟨b5, 12, none⟩ = false := frozen_of_row _ _ _ _ _ G5.out
      go_wp2_with fail
      refine (Fe.out _ HB.out).mono ?_
      rintro e w' ⟨rfl, hq⟩
      subst w'
      go_upto_region 12 with fail
      have g5 := heap_setCell_same u7 b5 12 _ _ (.bool (decide (xe = 1))) G5.out
      simp only [List.setIfInBounds_toArray, List.set_cons_succ, List.set_cons_zero] at g5
      have g4 := (Below.heap_setCell u7 ⟨b5, 12, none⟩ (.bool (decide (xe = 1))) w.heap.size (by simp; omega)).trans G4.out
      have hb := Owned.below_write HB.out (g := b5) (i := 12) (by omega) (.bool (decide (xe = 1)))
      clear c12 f12 G4 G5 HB
      generalize World.setCell u7 ⟨b5, 12, none⟩ (.bool (decide (xe = 1))) = u8 at g4 g5 hb ⊢
      have G4 := Lib.hid g4
      have G5 := Lib.hid g5
      have HB := Lib.hid hb
      clear g4 g5 hb
      have FIN : Hid (R.cells.toArray = #[.bool true, I (1 + x0), I x1, I (1 + x0 + x5), I (1 + x0 + x5 + x6), I (1 + x2), I (10 + x3), I x4, I 0, I 0, I 0, .bool (decide (xt > 0)), .bool (decide (xe = 1))]) := Lib.hid (by rw [RES.out]; simp only [Ph.cells, if_neg H7.out, RC.out])
      have LV : Hid (Lies u8 ⟨b5, 0, none⟩ #[.bool true, I (1 + x0), I x1, I (1 + x0 + x5), I (1 + x0 + x5 + x6), I (1 + x2), I (10 + x3), I x4, I 0, I 0, I 0, .bool (decide (xt > 0)), .bool (decide (xe = 1))].toList) := Lib.hid (Row.lies_of_block G5.out)
      have HG := Lib.hid (below_setRow HB.out (g := w.heap.size) (Nat.le_refl _) #[.bool true, I (1 + x0), I x1, I (1 + x0 + x5), I (1 + x0 + x5 + x6), I (1 + x2), I (10 + x3), I x4, I 0, I 0, I 0, .bool (decide (xt > 0)), .bool (decide (xe = 1))])
      have HK := Lib.hid (setRow_heap u8 w.heap.size _ #[.bool true, I (1 + x0), I x1, I (1 + x0 + x5), I (1 + x0 + x5 + x6), I (1 + x2), I (10 + x3), I x4, I 0, I 0, I 0, .bool (decide (xt > 0)), .bool (decide (xe = 1))] _ _ G4.out)
      go_wp2_with (first | (refine Row.wpList_load_g 23 _ rfl (by first | rfl | go_simp) ⟨b5, 0, none⟩ rfl #[.bool true, I (1 + x0), I x1, I (1 + x0 + x5), I (1 + x0 + x5 + x6), I (1 + x2), I (10 + x3), I x4, I 0, I 0, I 0, .bool (decide (xt > 0)), .bool (decide (xe = 1))].toList _ LV.out Try.underlying23 rfl infoP ?_) | (refine wpList_store_row rfl 23 _ _ rfl w.heap.size #[.bool true, I (1 + x0), I x1, I (1 + x0 + x5), I (1 + x0 + x5 + x6), I (1 + x2), I (10 + x3), I x4, I 0, I 0, I 0, .bool (decide (xt > 0)), .bool (decide (xe = 1))] rfl rfl 23 _ G4.out infoP rfl (by simp [Value.oneCell']) ?_))
      generalize u8.setRow w.heap.size #[.bool true, I (1 + x0), I x1, I (1 + x0 + x5), I (1 + x0 + x5 + x6), I (1 + x2), I (10 + x3), I x4, I 0, I 0, I 0, .bool (decide (xt > 0)), .bool (decide (xe = 1))] = uz at HG HK ⊢
      go_wp2_with fail
      (try simp only [Exit.inBlock, Exit.then])
      refine bodyPost_ret (v := .agg #[.bool true, I (1 + x0), I x1, I (1 + x0 + x5), I (1 + x0 + x5 + x6), I (1 + x2), I (10 + x3), I x4, I 0, I 0, I 0, .bool (decide (xt > 0)), .bool (decide (xe = 1))]) ?_ rfl ⟨by rw [FIN.out], HG.out⟩
      exact results_cell_row rfl _ _ w.heap.size 23 _ (0, 0) _ rfl HK.out Try.underlying23 rfl infoP
    · have H9 := Lib.hid h9
      have q9 : x9 ≤ 3 := by omega
      by_cases h3 : x9 = 3
      · have RC : Hid (recall x9 (0) = 0) := Lib.hid (by unfold recall; rw [if_pos (by omega)])
        have H3 := Lib.hid h3
        have e3 : (x9 == 3) = true := by simpa using h3
        clear h3 h9
        go_upto_region 10 with fail
        have g5 := heap_setCell_same u5 b5 10 _ _ (I 0) G5.out
        simp only [List.setIfInBounds_toArray, List.set_cons_succ, List.set_cons_zero] at g5
        have g4 := (Below.heap_setCell u5 ⟨b5, 10, none⟩ (I 0) w.heap.size (by simp; omega)).trans G4.out
        have hb := Owned.below_write HB.out (g := b5) (i := 10) (by omega) (I 0)
        clear c8 c10 f10 G4 G5 HB
        generalize World.setCell u5 ⟨b5, 10, none⟩ (I 0) = u6 at g4 g5 hb ⊢
        have G4 := Lib.hid g4
        have G5 := Lib.hid g5
        have HB := Lib.hid hb
        clear g4 g5 hb
        clear e3
        have c11 : u6.cell? ⟨b5, 11, none⟩ = some (.bool false) := by rw [cell_of_row _ _ _ _ _ _ G5.out]; rfl
        have f11 : u6.frozen? ⟨b5, 11, none⟩ = false := frozen_of_row _ _ _ _ _ G5.out
        go_wp2_with fail
        refine (Ft.out _ HB.out).mono ?_
        rintro e w' ⟨rfl, hq⟩
        subst w'
        go_upto_region 11 with fail
        have g5 := heap_setCell_same u6 b5 11 _ _ (.bool (decide (xt > 0))) G5.out
        simp only [List.setIfInBounds_toArray, List.set_cons_succ, List.set_cons_zero] at g5
        have g4 := (Below.heap_setCell u6 ⟨b5, 11, none⟩ (.bool (decide (xt > 0))) w.heap.size (by simp; omega)).trans G4.out
        have hb := Owned.below_write HB.out (g := b5) (i := 11) (by omega) (.bool (decide (xt > 0)))
        clear c11 f11 G4 G5 HB
        generalize World.setCell u6 ⟨b5, 11, none⟩ (.bool (decide (xt > 0))) = u7 at g4 g5 hb ⊢
        have G4 := Lib.hid g4
        have G5 := Lib.hid g5
        have HB := Lib.hid hb
        clear g4 g5 hb
        have c12 : u7.cell? ⟨b5, 12, none⟩ = some (.bool false) := by rw [cell_of_row _ _ _ _ _ _ G5.out]; rfl
        have f12 : u7.frozen? ⟨b5, 12, none⟩ = false := frozen_of_row _ _ _ _ _ G5.out
        go_wp2_with fail
        refine (Fe.out _ HB.out).mono ?_
        rintro e w' ⟨rfl, hq⟩
        subst w'
        go_upto_region 12 with fail
        have g5 := heap_setCell_same u7 b5 12 _ _ (.bool (decide (xe = 1))) G5.out
        simp only [List.setIfInBounds_toArray, List.set_cons_succ, List.set_cons_zero] at g5
        have g4 := (Below.heap_setCell u7 ⟨b5, 12, none⟩ (.bool (decide (xe = 1))) w.heap.size (by simp; omega)).trans G4.out
        have hb := Owned.below_write HB.out (g := b5) (i := 12) (by omega) (.bool (decide (xe = 1)))
        clear c12 f12 G4 G5 HB
        generalize World.setCell u7 ⟨b5, 12, none⟩ (.bool (decide (xe = 1))) = u8 at g4 g5 hb ⊢
        have G4 := Lib.hid g4
        have G5 := Lib.hid g5
        have HB := Lib.hid hb
        clear g4 g5 hb
        have FIN : Hid (R.cells.toArray = #[.bool true, I (1 + x0), I x1, I (1 + x0 + x5), I (1 + x0 + x5 + x6), I (1 + x2), I (10 + x3), I x4, I 0, I 0, I 0, .bool (decide (xt > 0)), .bool (decide (xe = 1))]) := Lib.hid (by rw [RES.out]; simp only [Ph.cells, if_neg H7.out, RC.out])
        have LV : Hid (Lies u8 ⟨b5, 0, none⟩ #[.bool true, I (1 + x0), I x1, I (1 + x0 + x5), I (1 + x0 + x5 + x6), I (1 + x2), I (10 + x3), I x4, I 0, I 0, I 0, .bool (decide (xt > 0)), .bool (decide (xe = 1))].toList) := Lib.hid (Row.lies_of_block G5.out)
        have HG := Lib.hid (below_setRow HB.out (g := w.heap.size) (Nat.le_refl _) #[.bool true, I (1 + x0), I x1, I (1 + x0 + x5), I (1 + x0 + x5 + x6), I (1 + x2), I (10 + x3), I x4, I 0, I 0, I 0, .bool (decide (xt > 0)), .bool (decide (xe = 1))])
        have HK := Lib.hid (setRow_heap u8 w.heap.size _ #[.bool true, I (1 + x0), I x1, I (1 + x0 + x5), I (1 + x0 + x5 + x6), I (1 + x2), I (10 + x3), I x4, I 0, I 0, I 0, .bool (decide (xt > 0)), .bool (decide (xe = 1))] _ _ G4.out)
        go_wp2_with (first | (refine Row.wpList_load_g 23 _ rfl (by first | rfl | go_simp) ⟨b5, 0, none⟩ rfl #[.bool true, I (1 + x0), I x1, I (1 + x0 + x5), I (1 + x0 + x5 + x6), I (1 + x2), I (10 + x3), I x4, I 0, I 0, I 0, .bool (decide (xt > 0)), .bool (decide (xe = 1))].toList _ LV.out Try.underlying23 rfl infoP ?_) | (refine wpList_store_row rfl 23 _ _ rfl w.heap.size #[.bool true, I (1 + x0), I x1, I (1 + x0 + x5), I (1 + x0 + x5 + x6), I (1 + x2), I (10 + x3), I x4, I 0, I 0, I 0, .bool (decide (xt > 0)), .bool (decide (xe = 1))] rfl rfl 23 _ G4.out infoP rfl (by simp [Value.oneCell']) ?_))
        generalize u8.setRow w.heap.size #[.bool true, I (1 + x0), I x1, I (1 + x0 + x5), I (1 + x0 + x5 + x6), I (1 + x2), I (10 + x3), I x4, I 0, I 0, I 0, .bool (decide (xt > 0)), .bool (decide (xe = 1))] = uz at HG HK ⊢
        go_wp2_with fail
        (try simp only [Exit.inBlock, Exit.then])
        refine bodyPost_ret (v := .agg #[.bool true, I (1 + x0), I x1, I (1 + x0 + x5), I (1 + x0 + x5 + x6), I (1 + x2), I (10 + x3), I x4, I 0, I 0, I 0, .bool (decide (xt > 0)), .bool (decide (xe = 1))]) ?_ rfl ⟨by rw [FIN.out], HG.out⟩
        exact results_cell_row rfl _ _ w.heap.size 23 _ (0, 0) _ rfl HK.out Try.underlying23 rfl infoP
      · have RC : Hid (recall x9 (0) = x9) := Lib.hid (by unfold recall; rw [if_neg (by omega)])
        have H3 := Lib.hid h3
        have e3 : (x9 == 3) = false := by simpa using h3
        clear h3 h9
        go_upto_region 10 with fail
        clear c8 c10 f10 e3
        have c11 : u5.cell? ⟨b5, 11, none⟩ = some (.bool false) := by rw [cell_of_row _ _ _ _ _ _ G5.out]; rfl
        have f11 : u5.frozen? ⟨b5, 11, none⟩ = false := frozen_of_row _ _ _ _ _ G5.out
        go_wp2_with fail
        refine (Ft.out _ HB.out).mono ?_
        rintro e w' ⟨rfl, hq⟩
        subst w'
        go_upto_region 11 with fail
        have g5 := heap_setCell_same u5 b5 11 _ _ (.bool (decide (xt > 0))) G5.out
        simp only [List.setIfInBounds_toArray, List.set_cons_succ, List.set_cons_zero] at g5
        have g4 := (Below.heap_setCell u5 ⟨b5, 11, none⟩ (.bool (decide (xt > 0))) w.heap.size (by simp; omega)).trans G4.out
        have hb := Owned.below_write HB.out (g := b5) (i := 11) (by omega) (.bool (decide (xt > 0)))
        clear c11 f11 G4 G5 HB
        generalize World.setCell u5 ⟨b5, 11, none⟩ (.bool (decide (xt > 0))) = u6 at g4 g5 hb ⊢
        have G4 := Lib.hid g4
        have G5 := Lib.hid g5
        have HB := Lib.hid hb
        clear g4 g5 hb
        have c12 : u6.cell? ⟨b5, 12, none⟩ = some (.bool false) := by rw [cell_of_row _ _ _ _ _ _ G5.out]; rfl
        have f12 : u6.frozen? ⟨b5, 12, none⟩ = false := frozen_of_row _ _ _ _ _ G5.out
        go_wp2_with fail
        refine (Fe.out _ HB.out).mono ?_
        rintro e w' ⟨rfl, hq⟩
        subst w'
        go_upto_region 12 with fail
        have g5 := heap_setCell_same u6 b5 12 _ _ (.bool (decide (xe = 1))) G5.out
        simp only [List.setIfInBounds_toArray, List.set_cons_succ, List.set_cons_zero] at g5
        have g4 := (Below.heap_setCell u6 ⟨b5, 12, none⟩ (.bool (decide (xe = 1))) w.heap.size (by simp; omega)).trans G4.out
        have hb := Owned.below_write HB.out (g := b5) (i := 12) (by omega) (.bool (decide (xe = 1)))
        clear c12 f12 G4 G5 HB
        generalize World.setCell u6 ⟨b5, 12, none⟩ (.bool (decide (xe = 1))) = u7 at g4 g5 hb ⊢
        have G4 := Lib.hid g4
        have G5 := Lib.hid g5
        have HB := Lib.hid hb
        clear g4 g5 hb
        have FIN : Hid (R.cells.toArray = #[.bool true, I (1 + x0), I x1, I (1 + x0 + x5), I (1 + x0 + x5 + x6), I (1 + x2), I (10 + x3), I x4, I 0, I 0, I x9, .bool (decide (xt > 0)), .bool (decide (xe = 1))]) := Lib.hid (by rw [RES.out]; simp only [Ph.cells, if_neg H7.out, RC.out])
        have LV : Hid (Lies u7 ⟨b5, 0, none⟩ #[.bool true, I (1 + x0), I x1, I (1 + x0 + x5), I (1 + x0 + x5 + x6), I (1 + x2), I (10 + x3), I x4, I 0, I 0, I x9, .bool (decide (xt > 0)), .bool (decide (xe = 1))].toList) := Lib.hid (Row.lies_of_block G5.out)
        have HG := Lib.hid (below_setRow HB.out (g := w.heap.size) (Nat.le_refl _) #[.bool true, I (1 + x0), I x1, I (1 + x0 + x5), I (1 + x0 + x5 + x6), I (1 + x2), I (10 + x3), I x4, I 0, I 0, I x9, .bool (decide (xt > 0)), .bool (decide (xe = 1))])
        have HK := Lib.hid (setRow_heap u7 w.heap.size _ #[.bool true, I (1 + x0), I x1, I (1 + x0 + x5), I (1 + x0 + x5 + x6), I (1 + x2), I (10 + x3), I x4, I 0, I 0, I x9, .bool (decide (xt > 0)), .bool (decide (xe = 1))] _ _ G4.out)
        go_wp2_with (first | (refine Row.wpList_load_g 23 _ rfl (by first | rfl | go_simp) ⟨b5, 0, none⟩ rfl #[.bool true, I (1 + x0), I x1, I (1 + x0 + x5), I (1 + x0 + x5 + x6), I (1 + x2), I (10 + x3), I x4, I 0, I 0, I x9, .bool (decide (xt > 0)), .bool (decide (xe = 1))].toList _ LV.out Try.underlying23 rfl infoP ?_) | (refine wpList_store_row rfl 23 _ _ rfl w.heap.size #[.bool true, I (1 + x0), I x1, I (1 + x0 + x5), I (1 + x0 + x5 + x6), I (1 + x2), I (10 + x3), I x4, I 0, I 0, I x9, .bool (decide (xt > 0)), .bool (decide (xe = 1))] rfl rfl 23 _ G4.out infoP rfl (by simp [Value.oneCell']) ?_))
        generalize u7.setRow w.heap.size #[.bool true, I (1 + x0), I x1, I (1 + x0 + x5), I (1 + x0 + x5 + x6), I (1 + x2), I (10 + x3), I x4, I 0, I 0, I x9, .bool (decide (xt > 0)), .bool (decide (xe = 1))] = uz at HG HK ⊢
        go_wp2_with fail
        (try simp only [Exit.inBlock, Exit.then])
        refine bodyPost_ret (v := .agg #[.bool true, I (1 + x0), I x1, I (1 + x0 + x5), I (1 + x0 + x5 + x6), I (1 + x2), I (10 + x3), I x4, I 0, I 0, I x9, .bool (decide (xt > 0)), .bool (decide (xe = 1))]) ?_ rfl ⟨by rw [FIN.out], HG.out⟩
        exact results_cell_row rfl _ _ w.heap.size 23 _ (0, 0) _ rfl HK.out Try.underlying23 rfl infoP
end GenP
namespace GenD
open Go.ChangeShapes Go.WideShapes Go.ChangeAt Go.RowKit
open Tab Clone RefS
open May (infoD)
open Same (below_setRow)
theorem run_store_float {P : Program} {w : World} {a : Addr} {u : Value} {k : FloatKind} {v : Nat} (h : w.cell? a = some u) (hf : w.frozen? a = false) : Sem.run P (store a (.float k v)) w = .ok () (w.setCell a (.float k v)) := by
  rw [run_store P w a _ _ rfl]
  simp [stored, h, hf]
theorem infoDz : (Try.prog.info? 72).map (fun i => (i.zero, i.size)) = some (some (.agg #[I 0, F 0, F 0, F 0, F 0, I 0, I 0]), 7) := by kernel_rfl
def onTab (x : Int) : Nat := [4617315517961601024, 4621819117588971520, 4607182418800017408, 4602678819172646912].getD x.toNat 0
def facTab (x : Int) : Nat := [4602678819172646912, 4607182418800017408, 4598175219545276416].getD x.toNat 0
theorem idx4_0 (w : World) : Sem.run Try.prog (Instr.index 99 (.agg #[F 4617315517961601024, F 4621819117588971520, F 4607182418800017408, F 4602678819172646912]) (.int .i64 0)) w = .ok (F (onTab 0)) w := by kernel_rfl
theorem idx4_1 (w : World) : Sem.run Try.prog (Instr.index 99 (.agg #[F 4617315517961601024, F 4621819117588971520, F 4607182418800017408, F 4602678819172646912]) (.int .i64 1)) w = .ok (F (onTab 1)) w := by kernel_rfl
theorem idx4_2 (w : World) : Sem.run Try.prog (Instr.index 99 (.agg #[F 4617315517961601024, F 4621819117588971520, F 4607182418800017408, F 4602678819172646912]) (.int .i64 2)) w = .ok (F (onTab 2)) w := by kernel_rfl
theorem idx4_3 (w : World) : Sem.run Try.prog (Instr.index 99 (.agg #[F 4617315517961601024, F 4621819117588971520, F 4607182418800017408, F 4602678819172646912]) (.int .i64 3)) w = .ok (F (onTab 3)) w := by kernel_rfl
theorem idx4 (x : Int) (h0 : 0 ≤ x) (h1 : x < 4) (w : World) : Sem.run Try.prog (Instr.index 99 (.agg #[F 4617315517961601024, F 4621819117588971520, F 4607182418800017408, F 4602678819172646912]) (.int .i64 x)) w = .ok (F (onTab x)) w := by
  have : x = 0 ∨ x = 1 ∨ x = 2 ∨ x = 3 := by omega
  rcases this with rfl | rfl | rfl | rfl
  · exact idx4_0 w
  · exact idx4_1 w
  · exact idx4_2 w
  · exact idx4_3 w
theorem idx3_0 (w : World) : Sem.run Try.prog (Instr.index 100 (.agg #[F 4602678819172646912, F 4607182418800017408, F 4598175219545276416]) (.int .i64 0)) w = .ok (F (facTab 0)) w := by kernel_rfl
theorem idx3_1 (w : World) : Sem.run Try.prog (Instr.index 100 (.agg #[F 4602678819172646912, F 4607182418800017408, F 4598175219545276416]) (.int .i64 1)) w = .ok (F (facTab 1)) w := by kernel_rfl
theorem idx3_2 (w : World) : Sem.run Try.prog (Instr.index 100 (.agg #[F 4602678819172646912, F 4607182418800017408, F 4598175219545276416]) (.int .i64 2)) w = .ok (F (facTab 2)) w := by kernel_rfl
theorem idx3 (x : Int) (h0 : 0 ≤ x) (h1 : x < 3) (w : World) : Sem.run Try.prog (Instr.index 100 (.agg #[F 4602678819172646912, F 4607182418800017408, F 4598175219545276416]) (.int .i64 x)) w = .ok (F (facTab x)) w := by
  have : x = 0 ∨ x = 1 ∨ x = 2 := by omega
  rcases this with rfl | rfl | rfl
  · exact idx3_0 w
  · exact idx3_1 w
  · exact idx3_2 w
def mulTab (x y : Int) : Nat := (floatBits .mul .f64 (onTab x) (facTab y)).getD 0
theorem mul_ok (x y : Int) (h0 : 0 ≤ x) (h1 : x < 4) (k0 : 0 ≤ y) (k1 : y < 3) (t : TypeId) (w : World) : (binOp .mul t (F (onTab x)) (F (facTab y))).run Try.prog w = .ok (F (mulTab x y)) w := by
  refine run_float_arith w .mul t .f64 _ _ _ ?_
  have h : ∀ a : Nat, a < 4 → ∀ b : Nat, b < 3 → floatBits .mul .f64 (onTab a) (facTab b) = some (mulTab a b) := by decide +kernel
  have := h x.toNat (by omega) y.toNat (by omega)
  rwa [Int.toNat_of_nonneg h0, Int.toNat_of_nonneg k0] at this
/-- A detector by eight numbers. -/
def genDet (L : List Int) (i n : Int) : Det :=
  ⟨num L i n, onTab (num L (i + 1) 4), mulTab (num L (i + 1) 4) (num L (i + 2) 3), Fl.ofB (num L (i + 3) 4).toNat, Fl.ofB (num L (i + 4) 6).toNat,
    if num L (i + 5) 3 = 1 then 20 + num L (i + 6) 60 else 0, if num L (i + 5) 9 = 2 then 60 + num L (i + 7) 300 else 0⟩
theorem detector_any (a : Option Addr) (cap : Nat) (L : List Int) (i n : Int) (w : World) (h : IntRow w ⟨a, cap⟩ L) (h0 : 0 ≤ i) (h1 : i ≤ 100000) (n0 : 0 < n) (n8 : n ≤ 8) :
    Calls Try.prog 35 #[.slice a L.length cap, .int .i64 i, .int .i64 n] w fun e w' => e = .returned (.agg (genDet L i n).cells.toArray) ∧ Below w.heap.size w w' := by
  obtain ⟨x0, hx0, ⟨r0, s0⟩, F0⟩ : ∃ x : Int, x = num L i n ∧ (0 ≤ x ∧ x < n) ∧ Hid (∀ W, Below w.heap.size w W → Calls Try.prog 33 #[.slice a L.length cap, .int .i64 i, .int .i64 n] W fun e w' => e = .returned (.int .i64 x) ∧ w' = W) := ⟨_, rfl, num_range _ _ _ (by omega), Lib.hid (fun W hb => (from_any a cap L _ _ W (h.below hb) (by omega) (by omega) (by omega)).mono fun _ _ ⟨e, q⟩ => ⟨e, q.symm⟩)⟩
  obtain ⟨x1, hx1, ⟨r1, s1⟩, F1⟩ : ∃ x : Int, x = num L (i + 1) 4 ∧ (0 ≤ x ∧ x < 4) ∧ Hid (∀ W, Below w.heap.size w W → Calls Try.prog 33 #[.slice a L.length cap, .int .i64 (i + 1), .int .i64 4] W fun e w' => e = .returned (.int .i64 x) ∧ w' = W) := ⟨_, rfl, num_range _ _ _ (by omega), Lib.hid (fun W hb => (from_any a cap L _ _ W (h.below hb) (by omega) (by omega) (by omega)).mono fun _ _ ⟨e, q⟩ => ⟨e, q.symm⟩)⟩
  obtain ⟨x2, hx2, ⟨r2, s2⟩, F2⟩ : ∃ x : Int, x = num L (i + 2) 3 ∧ (0 ≤ x ∧ x < 3) ∧ Hid (∀ W, Below w.heap.size w W → Calls Try.prog 33 #[.slice a L.length cap, .int .i64 (i + 2), .int .i64 3] W fun e w' => e = .returned (.int .i64 x) ∧ w' = W) := ⟨_, rfl, num_range _ _ _ (by omega), Lib.hid (fun W hb => (from_any a cap L _ _ W (h.below hb) (by omega) (by omega) (by omega)).mono fun _ _ ⟨e, q⟩ => ⟨e, q.symm⟩)⟩
  obtain ⟨x3, hx3, ⟨r3, s3⟩, F3⟩ : ∃ x : Int, x = num L (i + 3) 4 ∧ (0 ≤ x ∧ x < 4) ∧ Hid (∀ W, Below w.heap.size w W → Calls Try.prog 33 #[.slice a L.length cap, .int .i64 (i + 3), .int .i64 4] W fun e w' => e = .returned (.int .i64 x) ∧ w' = W) := ⟨_, rfl, num_range _ _ _ (by omega), Lib.hid (fun W hb => (from_any a cap L _ _ W (h.below hb) (by omega) (by omega) (by omega)).mono fun _ _ ⟨e, q⟩ => ⟨e, q.symm⟩)⟩
  obtain ⟨x4, hx4, ⟨r4, s4⟩, F4⟩ : ∃ x : Int, x = num L (i + 4) 6 ∧ (0 ≤ x ∧ x < 6) ∧ Hid (∀ W, Below w.heap.size w W → Calls Try.prog 33 #[.slice a L.length cap, .int .i64 (i + 4), .int .i64 6] W fun e w' => e = .returned (.int .i64 x) ∧ w' = W) := ⟨_, rfl, num_range _ _ _ (by omega), Lib.hid (fun W hb => (from_any a cap L _ _ W (h.below hb) (by omega) (by omega) (by omega)).mono fun _ _ ⟨e, q⟩ => ⟨e, q.symm⟩)⟩
  obtain ⟨x5, hx5, ⟨r5, s5⟩, F5⟩ : ∃ x : Int, x = num L (i + 5) 3 ∧ (0 ≤ x ∧ x < 3) ∧ Hid (∀ W, Below w.heap.size w W → Calls Try.prog 33 #[.slice a L.length cap, .int .i64 (i + 5), .int .i64 3] W fun e w' => e = .returned (.int .i64 x) ∧ w' = W) := ⟨_, rfl, num_range _ _ _ (by omega), Lib.hid (fun W hb => (from_any a cap L _ _ W (h.below hb) (by omega) (by omega) (by omega)).mono fun _ _ ⟨e, q⟩ => ⟨e, q.symm⟩)⟩
  obtain ⟨x6, hx6, ⟨r6, s6⟩, F6⟩ : ∃ x : Int, x = num L (i + 6) 60 ∧ (0 ≤ x ∧ x < 60) ∧ Hid (∀ W, Below w.heap.size w W → Calls Try.prog 33 #[.slice a L.length cap, .int .i64 (i + 6), .int .i64 60] W fun e w' => e = .returned (.int .i64 x) ∧ w' = W) := ⟨_, rfl, num_range _ _ _ (by omega), Lib.hid (fun W hb => (from_any a cap L _ _ W (h.below hb) (by omega) (by omega) (by omega)).mono fun _ _ ⟨e, q⟩ => ⟨e, q.symm⟩)⟩
  obtain ⟨xz, hxz, ⟨rz, sz⟩, Fz⟩ : ∃ x : Int, x = num L (i + 5) 9 ∧ (0 ≤ x ∧ x < 9) ∧ Hid (∀ W, Below w.heap.size w W → Calls Try.prog 33 #[.slice a L.length cap, .int .i64 (i + 5), .int .i64 9] W fun e w' => e = .returned (.int .i64 x) ∧ w' = W) := ⟨_, rfl, num_range _ _ _ (by omega), Lib.hid (fun W hb => (from_any a cap L _ _ W (h.below hb) (by omega) (by omega) (by omega)).mono fun _ _ ⟨e, q⟩ => ⟨e, q.symm⟩)⟩
  obtain ⟨x7, hx7, ⟨r7, s7⟩, F7⟩ : ∃ x : Int, x = num L (i + 7) 300 ∧ (0 ≤ x ∧ x < 300) ∧ Hid (∀ W, Below w.heap.size w W → Calls Try.prog 33 #[.slice a L.length cap, .int .i64 (i + 7), .int .i64 300] W fun e w' => e = .returned (.int .i64 x) ∧ w' = W) := ⟨_, rfl, num_range _ _ _ (by omega), Lib.hid (fun W hb => (from_any a cap L _ _ W (h.below hb) (by omega) (by omega) (by omega)).mono fun _ _ ⟨e, q⟩ => ⟨e, q.symm⟩)⟩
  obtain ⟨v1, hv1, I1⟩ : ∃ v : Nat, v = onTab x1 ∧ Hid (∀ w, Sem.run Try.prog (Instr.index 99 (.agg #[F 4617315517961601024, F 4621819117588971520, F 4607182418800017408, F 4602678819172646912]) (.int .i64 x1)) w = .ok (F v) w) := ⟨_, rfl, Lib.hid (fun w => idx4 x1 r1 s1 w)⟩
  obtain ⟨v2, hv2, I2⟩ : ∃ v : Nat, v = facTab x2 ∧ Hid (∀ w, Sem.run Try.prog (Instr.index 100 (.agg #[F 4602678819172646912, F 4607182418800017408, F 4598175219545276416]) (.int .i64 x2)) w = .ok (F v) w) := ⟨_, rfl, Lib.hid (fun w => idx3 x2 r2 s2 w)⟩
  obtain ⟨v3, hv3, I3⟩ : ∃ v : Nat, v = mulTab x1 x2 ∧ Hid (∀ t w, (binOp .mul t (F v1) (F v2)).run Try.prog w = .ok (.float .f64 v) w) := ⟨_, rfl, Lib.hid (fun t w => by rw [hv1, hv2]; exact mul_ok x1 x2 r1 s1 r2 s2 t w)⟩
  obtain ⟨v4, hv4, I4⟩ : ∃ v : Nat, v = Fl.ofB x3.toNat ∧ Hid (∀ t w, (binOp .quo t (.float .f64 (floatOfInt .f64 x3)) (.float .f64 4621819117588971520)).run Try.prog w = .ok (.float .f64 v) w) := ⟨_, rfl, Lib.hid (Secs.quo_at Secs.quo_holds x3 r3 (by omega))⟩
  obtain ⟨v5, hv5, I5⟩ : ∃ v : Nat, v = Fl.ofB x4.toNat ∧ Hid (∀ t w, (binOp .quo t (.float .f64 (floatOfInt .f64 x4)) (.float .f64 4621819117588971520)).run Try.prog w = .ok (.float .f64 v) w) := ⟨_, rfl, Lib.hid (Secs.quo_at Secs.quo_holds x4 r4 (by omega))⟩
  have RES : Hid (genDet L i n = ⟨x0, v1, v3, v4, v5, if x5 = 1 then 20 + x6 else 0, if xz = 2 then 60 + x7 else 0⟩) := Lib.hid (by subst hv1 hv3 hv4 hv5 hx0 hx1 hx2 hx3 hx4 hx5 hx6 hxz hx7; rfl)
  generalize genDet L i n = R at RES ⊢
  have i1 := I1.out
  have i2 := I2.out
  have i3 := I3.out
  have i4 := I4.out
  have i5 := I5.out
  clear h hx0 hx1 hx2 hx3 hx4 hx5 hx6 hxz hx7 hv1 hv2 hv3 hv4 hv5
  have hz := (zero_of_info infoDz).1
  have HB : Hid (Below w.heap.size w (w.alloc (.cells #[I 0, F 0, F 0, F 0, F 0, I 0, I 0] 72))) := Lib.hid ((Below.refl _ _).alloc (Nat.le_refl _) _)
  have hg := heap_alloc_new w (.cells #[I 0, F 0, F 0, F 0, F 0, I 0, I 0] 72)
  have hs : (w.alloc (.cells #[I 0, F 0, F 0, F 0, F 0, I 0, I 0] 72)).heap.size = w.heap.size + 1 := by simp
  have HG := Lib.hid hg
  have HS := Lib.hid hs
  clear hg hs
  go_enter Try.func35, Try.ntmps35
  go_upto_region 1 with fail
  generalize (World.alloc w _) = u at HB HG HS ⊢
  go_wp2_with fail
  refine (F0.out _ HB.out).mono ?_
  rintro e w' ⟨rfl, hq⟩
  subst w'
  go_wp2_with fail
  refine (F1.out _ HB.out).mono ?_
  rintro e w' ⟨rfl, hq⟩
  subst w'
  go_upto_region 2 with (refine Row.wpList_store_new rfl 72 _ _ rfl u _ #[I x0, F v1, F 0, F 0, F 0, I 0, I 0] rfl rfl rfl infoD rfl (by simp [Value.oneCell']) ?_)
  (try dsimp only [Act.put])
  have hb := HB.out.alloc HB.out.size (.cells #[I x0, F v1, F 0, F 0, F 0, I 0, I 0] 72)
  have g5 := heap_alloc_new u (.cells #[I x0, F v1, F 0, F 0, F 0, I 0, I 0] 72)
  have g4 := (Below.heap_alloc u (.cells #[I x0, F v1, F 0, F 0, F 0, I 0, I 0] 72) w.heap.size (by have := HS.out; omega)).trans HG.out
  have b5lt : w.heap.size < u.heap.size := by have := HS.out; omega
  clear HB HG HS
  generalize World.alloc u _ = u0 at g4 g5 hb ⊢
  generalize u.heap.size = b5 at g5 b5lt ⊢
  have G4 := Lib.hid g4
  have G5 := Lib.hid g5
  have HB := Lib.hid hb
  clear g4 g5 hb
  have e0 : IntKind.i64.wrap (i + 2) = i + 2 := by rw [IntKind.wrap_i64]; omega
  have g4 : u0.drew.heap[w.heap.size]? = some (.cells #[I 0, F 0, F 0, F 0, F 0, I 0, I 0] 72 (0, 0)) := G4.out
  have g5 : u0.drew.heap[b5]? = some (.cells #[I x0, F v1, F 0, F 0, F 0, I 0, I 0] 72 (0, 0)) := G5.out
  have hb : Below w.heap.size w u0.drew := HB.out.drew
  clear G4 G5 HB
  refine QB.region_tail 10 (by kernel_rfl) (by kernel_rfl) ?_
  generalize World.drew u0 = u1 at g4 g5 hb ⊢
  have G4 := Lib.hid g4
  have G5 := Lib.hid g5
  have HB := Lib.hid hb
  clear g4 g5 hb
  have c1 : u1.cell? ⟨b5, 1, none⟩ = some (F v1) := by rw [cell_of_row _ _ _ _ _ _ G5.out]; rfl
  have c2 : u1.cell? ⟨b5, 2, none⟩ = some (F 0) := by rw [cell_of_row _ _ _ _ _ _ G5.out]; rfl
  have f2 : u1.frozen? ⟨b5, 2, none⟩ = false := frozen_of_row _ _ _ _ _ G5.out
  have st : Sem.run Try.prog (store ⟨b5, 2, none⟩ (.float .f64 v3)) u1 = .ok () (u1.setCell ⟨b5, 2, none⟩ (.float .f64 v3)) := run_store_float c2 f2
  simp only [List.take_succ_cons, List.take_zero, List.drop_succ_cons, List.drop_zero]
  repeat still_step
  still_call (F2.out _ HB.out)
  repeat still_step
  refine wpStill_nil ?_
  go_upto_region 3 with fail
  clear e0
  have g5 := heap_setCell_same u1 b5 2 _ _ (.float .f64 v3) G5.out
  simp only [List.setIfInBounds_toArray, List.set_cons_succ, List.set_cons_zero] at g5
  have g4 := (Below.heap_setCell u1 ⟨b5, 2, none⟩ (.float .f64 v3) w.heap.size (by simp; omega)).trans G4.out
  have hb := Owned.below_write HB.out (g := b5) (i := 2) (by omega) (.float .f64 v3)
  clear st c1 c2 f2 G4 G5 HB
  generalize World.setCell u1 ⟨b5, 2, none⟩ (.float .f64 v3) = u2 at g4 g5 hb ⊢
  have G4 := Lib.hid g4
  have G5 := Lib.hid g5
  have HB := Lib.hid hb
  clear g4 g5 hb
  have c3 : u2.cell? ⟨b5, 3, none⟩ = some (F 0) := by rw [cell_of_row _ _ _ _ _ _ G5.out]; rfl
  have f3 : u2.frozen? ⟨b5, 3, none⟩ = false := frozen_of_row _ _ _ _ _ G5.out
  have st : Sem.run Try.prog (store ⟨b5, 3, none⟩ (.float .f64 v4)) u2 = .ok () (u2.setCell ⟨b5, 3, none⟩ (.float .f64 v4)) := run_store_float c3 f3
  go_wp2_with fail
  refine (F3.out _ HB.out).mono ?_
  rintro e w' ⟨rfl, hq⟩
  subst w'
  go_upto_region 4 with fail
  have g5 := heap_setCell_same u2 b5 3 _ _ (.float .f64 v4) G5.out
  simp only [List.setIfInBounds_toArray, List.set_cons_succ, List.set_cons_zero] at g5
  have g4 := (Below.heap_setCell u2 ⟨b5, 3, none⟩ (.float .f64 v4) w.heap.size (by simp; omega)).trans G4.out
  have hb := Owned.below_write HB.out (g := b5) (i := 3) (by omega) (.float .f64 v4)
  clear st c3 f3 G4 G5 HB
  generalize World.setCell u2 ⟨b5, 3, none⟩ (.float .f64 v4) = u3 at g4 g5 hb ⊢
  have G4 := Lib.hid g4
  have G5 := Lib.hid g5
  have HB := Lib.hid hb
  clear g4 g5 hb
  have c4 : u3.cell? ⟨b5, 4, none⟩ = some (F 0) := by rw [cell_of_row _ _ _ _ _ _ G5.out]; rfl
  have f4 : u3.frozen? ⟨b5, 4, none⟩ = false := frozen_of_row _ _ _ _ _ G5.out
  have st : Sem.run Try.prog (store ⟨b5, 4, none⟩ (.float .f64 v5)) u3 = .ok () (u3.setCell ⟨b5, 4, none⟩ (.float .f64 v5)) := run_store_float c4 f4
  go_wp2_with fail
  refine (F4.out _ HB.out).mono ?_
  rintro e w' ⟨rfl, hq⟩
  subst w'
  go_upto_region 5 with fail
  have g5 := heap_setCell_same u3 b5 4 _ _ (.float .f64 v5) G5.out
  simp only [List.setIfInBounds_toArray, List.set_cons_succ, List.set_cons_zero] at g5
  have g4 := (Below.heap_setCell u3 ⟨b5, 4, none⟩ (.float .f64 v5) w.heap.size (by simp; omega)).trans G4.out
  have hb := Owned.below_write HB.out (g := b5) (i := 4) (by omega) (.float .f64 v5)
  clear st c4 f4 G4 G5 HB
  generalize World.setCell u3 ⟨b5, 4, none⟩ (.float .f64 v5) = u4 at g4 g5 hb ⊢
  have G4 := Lib.hid g4
  have G5 := Lib.hid g5
  have HB := Lib.hid hb
  clear g4 g5 hb
  go_wp2_with fail
  refine (F5.out _ HB.out).mono ?_
  rintro e w' ⟨rfl, hq⟩
  subst w'
  by_cases h5 : x5 = 1
  · have H5 := Lib.hid h5
    have e5 : (x5 == 1) = true := by simpa using h5
    clear h5
    go_upto_region 6 with fail
    have c5 : u4.cell? ⟨b5, 5, none⟩ = some (I 0) := by rw [cell_of_row _ _ _ _ _ _ G5.out]; rfl
    have f5 : u4.frozen? ⟨b5, 5, none⟩ = false := frozen_of_row _ _ _ _ _ G5.out
    go_wp2_with fail
    refine (F6.out _ HB.out).mono ?_
    rintro e w' ⟨rfl, hq⟩
    subst w'
    go_upto_region 7 with fail
    have g5 := heap_setCell_same u4 b5 5 _ _ (I (20 + x6)) G5.out
    simp only [List.setIfInBounds_toArray, List.set_cons_succ, List.set_cons_zero] at g5
    have g4 := (Below.heap_setCell u4 ⟨b5, 5, none⟩ (I (20 + x6)) w.heap.size (by simp; omega)).trans G4.out
    have hb := Owned.below_write HB.out (g := b5) (i := 5) (by omega) (I (20 + x6))
    clear c5 f5 G4 G5 HB
    generalize World.setCell u4 ⟨b5, 5, none⟩ (I (20 + x6)) = u5 at g4 g5 hb ⊢
    have G4 := Lib.hid g4
    have G5 := Lib.hid g5
    have HB := Lib.hid hb
    clear g4 g5 hb
    go_wp2_with fail
    refine (Fz.out _ HB.out).mono ?_
    rintro e w' ⟨rfl, hq⟩
    subst w'
    by_cases hz : xz = 2
    · have HZ := Lib.hid hz
      have ez : (xz == 2) = true := by simpa using hz
      clear hz
      go_upto_region 8 with fail
      have c6 : u5.cell? ⟨b5, 6, none⟩ = some (I 0) := by rw [cell_of_row _ _ _ _ _ _ G5.out]; rfl
      have f6 : u5.frozen? ⟨b5, 6, none⟩ = false := frozen_of_row _ _ _ _ _ G5.out
      go_wp2_with fail
      refine (F7.out _ HB.out).mono ?_
      rintro e w' ⟨rfl, hq⟩
      subst w'
      go_upto_region 9 with fail
      have g5 := heap_setCell_same u5 b5 6 _ _ (I (60 + x7)) G5.out
      simp only [List.setIfInBounds_toArray, List.set_cons_succ, List.set_cons_zero] at g5
      have g4 := (Below.heap_setCell u5 ⟨b5, 6, none⟩ (I (60 + x7)) w.heap.size (by simp; omega)).trans G4.out
      have hb := Owned.below_write HB.out (g := b5) (i := 6) (by omega) (I (60 + x7))
      clear c6 f6 G4 G5 HB
      generalize World.setCell u5 ⟨b5, 6, none⟩ (I (60 + x7)) = u6 at g4 g5 hb ⊢
      have G4 := Lib.hid g4
      have G5 := Lib.hid g5
      have HB := Lib.hid hb
      clear g4 g5 hb
      have FIN : Hid (R.cells.toArray = #[I x0, F v1, .float .f64 v3, .float .f64 v4, .float .f64 v5, I (20 + x6), I (60 + x7)]) := Lib.hid (by rw [RES.out]; simp only [Det.cells, if_pos H5.out, if_pos HZ.out])
      have LV : Hid (Lies u6 ⟨b5, 0, none⟩ #[I x0, F v1, .float .f64 v3, .float .f64 v4, .float .f64 v5, I (20 + x6), I (60 + x7)].toList) := Lib.hid (Row.lies_of_block G5.out)
      have HG := Lib.hid (below_setRow HB.out (g := w.heap.size) (Nat.le_refl _) #[I x0, F v1, .float .f64 v3, .float .f64 v4, .float .f64 v5, I (20 + x6), I (60 + x7)])
      have HK := Lib.hid (setRow_heap u6 w.heap.size _ #[I x0, F v1, .float .f64 v3, .float .f64 v4, .float .f64 v5, I (20 + x6), I (60 + x7)] _ _ G4.out)
      go_wp2_with (first | (refine Row.wpList_load_g 72 _ rfl (by first | rfl | go_simp) ⟨b5, 0, none⟩ rfl #[I x0, F v1, .float .f64 v3, .float .f64 v4, .float .f64 v5, I (20 + x6), I (60 + x7)].toList _ LV.out Try.underlying72 rfl infoD ?_) | (refine wpList_store_row rfl 72 _ _ rfl w.heap.size #[I x0, F v1, .float .f64 v3, .float .f64 v4, .float .f64 v5, I (20 + x6), I (60 + x7)] rfl rfl 72 _ G4.out infoD rfl (by simp [Value.oneCell']) ?_))
      generalize u6.setRow w.heap.size #[I x0, F v1, .float .f64 v3, .float .f64 v4, .float .f64 v5, I (20 + x6), I (60 + x7)] = uz at HG HK ⊢
      go_wp2_with fail
      (try simp only [Exit.inBlock, Exit.then])
      refine bodyPost_ret (v := .agg #[I x0, F v1, .float .f64 v3, .float .f64 v4, .float .f64 v5, I (20 + x6), I (60 + x7)]) ?_ rfl ⟨by rw [FIN.out], HG.out⟩
      exact results_cell_row rfl _ _ w.heap.size 72 _ (0, 0) _ rfl HK.out Try.underlying72 rfl infoD
    · have HZ := Lib.hid hz
      have ez : (xz == 2) = false := by simpa using hz
      clear hz
      go_upto_region 9 with fail
      have FIN : Hid (R.cells.toArray = #[I x0, F v1, .float .f64 v3, .float .f64 v4, .float .f64 v5, I (20 + x6), I 0]) := Lib.hid (by rw [RES.out]; simp only [Det.cells, if_pos H5.out, if_neg HZ.out])
      have LV : Hid (Lies u5 ⟨b5, 0, none⟩ #[I x0, F v1, .float .f64 v3, .float .f64 v4, .float .f64 v5, I (20 + x6), I 0].toList) := Lib.hid (Row.lies_of_block G5.out)
      have HG := Lib.hid (below_setRow HB.out (g := w.heap.size) (Nat.le_refl _) #[I x0, F v1, .float .f64 v3, .float .f64 v4, .float .f64 v5, I (20 + x6), I 0])
      have HK := Lib.hid (setRow_heap u5 w.heap.size _ #[I x0, F v1, .float .f64 v3, .float .f64 v4, .float .f64 v5, I (20 + x6), I 0] _ _ G4.out)
      go_wp2_with (first | (refine Row.wpList_load_g 72 _ rfl (by first | rfl | go_simp) ⟨b5, 0, none⟩ rfl #[I x0, F v1, .float .f64 v3, .float .f64 v4, .float .f64 v5, I (20 + x6), I 0].toList _ LV.out Try.underlying72 rfl infoD ?_) | (refine wpList_store_row rfl 72 _ _ rfl w.heap.size #[I x0, F v1, .float .f64 v3, .float .f64 v4, .float .f64 v5, I (20 + x6), I 0] rfl rfl 72 _ G4.out infoD rfl (by simp [Value.oneCell']) ?_))
      generalize u5.setRow w.heap.size #[I x0, F v1, .float .f64 v3, .float .f64 v4, .float .f64 v5, I (20 + x6), I 0] = uz at HG HK ⊢
      go_wp2_with fail
      (try simp only [Exit.inBlock, Exit.then])
      refine bodyPost_ret (v := .agg #[I x0, F v1, .float .f64 v3, .float .f64 v4, .float .f64 v5, I (20 + x6), I 0]) ?_ rfl ⟨by rw [FIN.out], HG.out⟩
      exact results_cell_row rfl _ _ w.heap.size 72 _ (0, 0) _ rfl HK.out Try.underlying72 rfl infoD
  · have H5 := Lib.hid h5
    have e5 : (x5 == 1) = false := by simpa using h5
    clear h5
    go_upto_region 7 with fail
    go_wp2_with fail
    refine (Fz.out _ HB.out).mono ?_
    rintro e w' ⟨rfl, hq⟩
    subst w'
    by_cases hz : xz = 2
    · have HZ := Lib.hid hz
      have ez : (xz == 2) = true := by simpa using hz
      clear hz
      go_upto_region 8 with fail
      have c6 : u4.cell? ⟨b5, 6, none⟩ = some (I 0) := by rw [cell_of_row _ _ _ _ _ _ G5.out]; rfl
      have f6 : u4.frozen? ⟨b5, 6, none⟩ = false := frozen_of_row _ _ _ _ _ G5.out
      go_wp2_with fail
      refine (F7.out _ HB.out).mono ?_
      rintro e w' ⟨rfl, hq⟩
      subst w'
      go_upto_region 9 with fail
      have g5 := heap_setCell_same u4 b5 6 _ _ (I (60 + x7)) G5.out
      simp only [List.setIfInBounds_toArray, List.set_cons_succ, List.set_cons_zero] at g5
      have g4 := (Below.heap_setCell u4 ⟨b5, 6, none⟩ (I (60 + x7)) w.heap.size (by simp; omega)).trans G4.out
      have hb := Owned.below_write HB.out (g := b5) (i := 6) (by omega) (I (60 + x7))
      clear c6 f6 G4 G5 HB
      generalize World.setCell u4 ⟨b5, 6, none⟩ (I (60 + x7)) = u5 at g4 g5 hb ⊢
      have G4 := Lib.hid g4
      have G5 := Lib.hid g5
      have HB := Lib.hid hb
      clear g4 g5 hb
      have FIN : Hid (R.cells.toArray = #[I x0, F v1, .float .f64 v3, .float .f64 v4, .float .f64 v5, I 0, I (60 + x7)]) := Lib.hid (by rw [RES.out]; simp only [Det.cells, if_neg H5.out, if_pos HZ.out])
      have LV : Hid (Lies u5 ⟨b5, 0, none⟩ #[I x0, F v1, .float .f64 v3, .float .f64 v4, .float .f64 v5, I 0, I (60 + x7)].toList) := Lib.hid (Row.lies_of_block G5.out)
      have HG := Lib.hid (below_setRow HB.out (g := w.heap.size) (Nat.le_refl _) #[I x0, F v1, .float .f64 v3, .float .f64 v4, .float .f64 v5, I 0, I (60 + x7)])
      have HK := Lib.hid (setRow_heap u5 w.heap.size _ #[I x0, F v1, .float .f64 v3, .float .f64 v4, .float .f64 v5, I 0, I (60 + x7)] _ _ G4.out)
      go_wp2_with (first | (refine Row.wpList_load_g 72 _ rfl (by first | rfl | go_simp) ⟨b5, 0, none⟩ rfl #[I x0, F v1, .float .f64 v3, .float .f64 v4, .float .f64 v5, I 0, I (60 + x7)].toList _ LV.out Try.underlying72 rfl infoD ?_) | (refine wpList_store_row rfl 72 _ _ rfl w.heap.size #[I x0, F v1, .float .f64 v3, .float .f64 v4, .float .f64 v5, I 0, I (60 + x7)] rfl rfl 72 _ G4.out infoD rfl (by simp [Value.oneCell']) ?_))
      generalize u5.setRow w.heap.size #[I x0, F v1, .float .f64 v3, .float .f64 v4, .float .f64 v5, I 0, I (60 + x7)] = uz at HG HK ⊢
      go_wp2_with fail
      (try simp only [Exit.inBlock, Exit.then])
      refine bodyPost_ret (v := .agg #[I x0, F v1, .float .f64 v3, .float .f64 v4, .float .f64 v5, I 0, I (60 + x7)]) ?_ rfl ⟨by rw [FIN.out], HG.out⟩
      exact results_cell_row rfl _ _ w.heap.size 72 _ (0, 0) _ rfl HK.out Try.underlying72 rfl infoD
    · have HZ := Lib.hid hz
      have ez : (xz == 2) = false := by simpa using hz
      clear hz
      go_upto_region 9 with fail
      have FIN : Hid (R.cells.toArray = #[I x0, F v1, .float .f64 v3, .float .f64 v4, .float .f64 v5, I 0, I 0]) := Lib.hid (by rw [RES.out]; simp only [Det.cells, if_neg H5.out, if_neg HZ.out])
      have LV : Hid (Lies u4 ⟨b5, 0, none⟩ #[I x0, F v1, .float .f64 v3, .float .f64 v4, .float .f64 v5, I 0, I 0].toList) := Lib.hid (Row.lies_of_block G5.out)
      have HG := Lib.hid (below_setRow HB.out (g := w.heap.size) (Nat.le_refl _) #[I x0, F v1, .float .f64 v3, .float .f64 v4, .float .f64 v5, I 0, I 0])
      have HK := Lib.hid (setRow_heap u4 w.heap.size _ #[I x0, F v1, .float .f64 v3, .float .f64 v4, .float .f64 v5, I 0, I 0] _ _ G4.out)
      go_wp2_with (first | (refine Row.wpList_load_g 72 _ rfl (by first | rfl | go_simp) ⟨b5, 0, none⟩ rfl #[I x0, F v1, .float .f64 v3, .float .f64 v4, .float .f64 v5, I 0, I 0].toList _ LV.out Try.underlying72 rfl infoD ?_) | (refine wpList_store_row rfl 72 _ _ rfl w.heap.size #[I x0, F v1, .float .f64 v3, .float .f64 v4, .float .f64 v5, I 0, I 0] rfl rfl 72 _ G4.out infoD rfl (by simp [Value.oneCell']) ?_))
      generalize u4.setRow w.heap.size #[I x0, F v1, .float .f64 v3, .float .f64 v4, .float .f64 v5, I 0, I 0] = uz at HG HK ⊢
      go_wp2_with fail
      (try simp only [Exit.inBlock, Exit.then])
      refine bodyPost_ret (v := .agg #[I x0, F v1, .float .f64 v3, .float .f64 v4, .float .f64 v5, I 0, I 0]) ?_ rfl ⟨by rw [FIN.out], HG.out⟩
      exact results_cell_row rfl _ _ w.heap.size 72 _ (0, 0) _ rfl HK.out Try.underlying72 rfl infoD
end GenD
namespace GenW
open Go.ChangeShapes Go.WideShapes Go.ChangeAt Go.RowKit
open Tab Clone RefS Where
open PlaceM (where_ beside)
open May (infoT)
def withS (T : Tab) (p q : Int) : Int := if beside T p q then ((SetM.withN (SetM.of [p] : Nat) q : Nat) : Int) else ((SetM.of [p] : Nat) : Int)
theorem row_one (w : World) (p : Int) (t : TypeId) (b : Nat) (hb : w.heap.size = b) : RefS.Row (w.alloc (.cells #[.int .i64 p] t)) (some ⟨b, 0, none⟩) [p] := by
  subst hb
  refine ⟨by simp [maxLen], .inr ⟨_, rfl, fun i hi => ?_⟩⟩
  obtain rfl : i = 0 := by simpa using hi
  rw [RefS.add_zero, cell_of_row _ _ _ _ _ _ (heap_alloc_new w _)]
  rfl
theorem with_any (T : Tab) (h : Hd) (p q : Int) (w : World) (ht : IsTab w h T) (sm : PlaceM.Few T) :
    Calls Try.prog 62 #[.agg (T.cells h).toArray, .int .i64 p, .int .i64 q] w fun e w' => e = .returned (.int .i64 (withS T p q)) ∧ Below w.heap.size w w' := by
  have hsz := (cells_ok ht).size
  have IA : Hid ((Try.prog.info? 45).map (·.size) = some (T.cells h).length) := Lib.hid (by rw [List.size_toArray] at hsz; rw [hsz]; exact infoT)
  have A0 : Hid (Below w.heap.size w (w.alloc (.cells (T.cells h).toArray 45))) := Lib.hid ((Below.refl _ _).alloc (Nat.le_refl _) _)
  have A1 : Hid (Lies (w.alloc (.cells (T.cells h).toArray 45)) ⟨w.heap.size, 0, none⟩ (T.cells h)) := Lib.hid (Row.lies_new w _ _)
  have BC : Hid (∀ W, Below w.heap.size w W → Calls Try.prog 32 #[.agg (T.cells h).toArray, .int .i64 p, .int .i64 q] W fun e w' => e = .returned (.bool (beside T p q)) ∧ Below W.heap.size W w') := Lib.hid (fun W hb => beside_any T h p q W (ht.below hb) sm)
  have RS : Hid (withS T p q = if beside T p q then ((SetM.withN (SetM.of [p] : Nat) q : Nat) : Int) else ((SetM.of [p] : Nat) : Int)) := Lib.hid rfl
  generalize withS T p q = r at RS ⊢
  generalize beside T p q = b at RS BC
  clear ht sm
  generalize T.cells h = c at *
  go_enter Try.func62, Try.ntmps62
  go_upto_region 1 with fail
  generalize w.alloc (.cells c.toArray 45) = u at A0 A1 ⊢
  clear hsz
  go_wp2_with fail
  have hb1 : Below u.heap.size u (u.alloc (.cells #[.int .i64 p] 3)) := (Below.refl _ _).alloc (Nat.le_refl _) _
  have hr := row_one u p 3 _ rfl
  have B0 : Hid (Below w.heap.size w (u.alloc (.cells #[.int .i64 p] 3))) := Lib.hid (A0.out.trans (hb1.mono A0.out.size))
  have B1 := Lib.hid (A1.out.below hb1)
  have HR := Lib.hid hr
  clear hb1 hr A0 A1
  generalize u.alloc (.cells #[.int .i64 p] 3) = u1 at B0 B1 HR ⊢
  refine (rof_any _ _ [p] _ HR.out).mono ?_
  rintro e w' ⟨rfl, rfl⟩
  generalize hs : ((SetM.of [p] : Nat) : Int) = s0 at RS ⊢
  have HS := Lib.hid hs
  clear hs HR
  go_wp2_with (refine Row.wpList_load_g 45 _ rfl (by first | rfl | go_simp) ⟨w.heap.size, 0, none⟩ rfl c _ B1.out Try.underlying45 rfl IA.out ?_)
  refine (BC.out _ B0.out).mono ?_
  rintro e u2 ⟨rfl, hb⟩
  have A0 : Hid (Below w.heap.size w u2) := Lib.hid (B0.out.trans (hb.mono B0.out.size))
  clear hb B0 B1 BC
  cases b
  · have HF : Hid (s0 = r) := Lib.hid (by rw [RS.out]; simp)
    go_wp2
    go_ret
    exact ⟨ret_int HF.out, A0.out⟩
  · go_wp2_with fail
    refine (rwith_any s0 q _).mono ?_
    rintro e u3 ⟨rfl, hb⟩
    have HF : Hid (((SetM.withN s0 q : Nat) : Int) = r) := Lib.hid (by rw [RS.out]; simp)
    have E := Lib.hid (A0.out.trans (hb.mono A0.out.size))
    clear hb
    generalize ((SetM.withN s0 q : Nat) : Int) = r2 at HF ⊢
    go_wp2
    go_ret
    exact ⟨ret_int HF.out, E.out⟩
end GenW
namespace CodeAt
open Go
def findR (id : Nat) : Code → Option Code
  | .region i ops d => if i = id then some (.region i ops d) else none
  | .seq a b => (findR id a).or (findR id b)
  | .cond _ a b => (findR id a).or (findR id b)
  | .block _ b => findR id b
  | .loop b => findR id b
  | .scope b => findR id b
  | _ => none
/-- Region number id of a function. -/
def rg (id : Nat) (f : Func) : Code := ((f.body.bind (findR id)).getD .skip)
end CodeAt
namespace Same
open Go.ChangeShapes Go.WideShapes Go.ChangeAt Go.RowKit
open Tab
open May (ret_bool chain take_succ' infoP infoG infoD infoR infoB infoT row_new St)
end Same
namespace Same
open Go.ChangeShapes Go.WideShapes Go.ChangeAt Go.RowKit
open Tab
open May (ret_bool chain take_succ' infoP infoG infoD infoR infoB infoT row_new St)
end Same
namespace Pw
open Go Go.RowKit
open Tab
structure W (P : Program) (ops : Array Oper) (D : Nat → World → Prop) (cs : List Nat) (Q : Act → Prop) (k : Nat) (l : List Oper) (a : Act) : Prop where
  out : Ph.wpPh P ops D cs Q k l a
section
variable {P : Program} {D : Nat → World → Prop} {ns : List Nat} {ops : Array Oper} {Q : Act → Prop} {k : Nat} {a : Act} {o : Oper} {rest : List Oper}
theorem region {id : Nat} {Q : Exit → Act → World → Prop} {a : Act} {w : World} {l : List Oper} (D : Nat → World → Prop) (cs : List Nat) (hm : P.follows .mixedOrders = true) (hB : Ph.okB .any l.toArray cs = true) (hD : D 0 w.drew)
    (h : W P l.toArray D cs (fun a' => ∀ w', D cs.length w' → Q .normal a' w') 0 l a) : (Code.region id l.toArray true).wp P Q a w := Ph.wp_region_ph D cs hm hB hD h.out
end
end Pw
namespace Same
open Go.ChangeShapes Go.WideShapes Go.ChangeAt Go.RowKit
open Tab Owned CodeAt
open May (ret_bool chain take_succ' infoP infoG infoD infoR infoB infoT row_new St)
theorem wp_store_whole {P : Program} {o : Oper} {a : Act} {w : World} {K : Act → World → Prop} {Q : Exit → Act → World → Prop} (ty : TypeId) (x y : Operand) (ho : o.op = .store ty x y) (g : Nat) (cells : Array Value) (hx : a.eval x = .pointer (some ⟨g, 0, none⟩)) (hy : a.eval y = .agg cells)
    (t : TypeId) (old : Array Value) (hg : w.heap[g]? = some (.cells old t (0, 0))) (hi : (P.info? ty).map (·.size) = some cells.size) (hs : old.size = cells.size) (h1 : cells.all (·.oneCell') = true) (hd : o.dst = none) (h : K a (w.setRow g cells)) : o.wp P a w K Q := by
  have hr := Row.run_storeAt_at (P := P) w g 0 t ty old cells hg hi (by omega) h1
  have e : (old.toList.take 0 ++ cells.toList ++ old.toList.drop (0 + cells.size)).toArray = cells := by
    rw [List.drop_of_length_le (by simp; omega)]; simp
  rw [e] at hr
  unfold Oper.wp execOp
  simp only [ho, hx, hy, Sem.run_bind, hr, Result.andThen_ok, Sem.run_pure]
  show K (a.put o.dst undef) _
  rw [hd]
  exact h
end Same
namespace GenR
open Go.ChangeShapes Go.WideShapes Go.ChangeAt Go.RowKit
open Tab Clone RefS CodeAt
open May (infoR infoT)
open Same (below_setRow)
open GenW Where
abbrev FromC (a : Option Addr) (cap : Nat) (L : List Int) (w : World) (i n x : Int) : Prop := ∀ W, Below w.heap.size w W → Calls Try.prog 33 #[.slice a L.length cap, .int .i64 i, .int .i64 n] W fun e w' => e = .returned (.int .i64 x) ∧ w' = W
theorem rail1_rg {Q : Exit → Act → World → Prop} (hP : ∀ c (a a' : Act) w, a.defers = a'.defers → Q (.panic c) a w → Q (.panic c) a' w) (T : Tab) (c : List Value) (a : Option Addr) (cap : Nat) (L : List Int) (i n x0 x1 x2 x3 : Int) (w u : World) (h0 : 0 ≤ i) (h1 : i ≤ 100000)
    (IA : Hid ((Try.prog.info? 45).map (·.size) = some c.length)) (HB : Hid (Below w.heap.size w u)) (HS : Hid (u.heap.size = w.heap.size + 2)) (LT : Hid (∀ w', Below u.heap.size u w' → Lies w' ⟨w.heap.size, 0, none⟩ c))
    (F0 : Hid (FromC a cap L w i n x0)) (F1 : Hid (FromC a cap L w (i + 1) n x1)) (F2 : Hid (FromC a cap L w (i + 2) n x2)) (F3 : Hid (FromC a cap L w (i + 3) n x3))
    (WC : Hid (∀ (p q : Int) W, Below w.heap.size w W → Calls Try.prog 62 #[.agg c.toArray, .int .i64 p, .int .i64 q] W fun e w' => e = .returned (.int .i64 (withS T p q)) ∧ Below W.heap.size W w')) (f0 f5 f6 f7 f8 f9 f10 f11 f12 f13 f14 f15 f16 f17 f18 f19 f20 f21 f22 f23 f24 f25 f26 f27 f28 f29 f30 f31 f32 f33 f34 f35 f36 f37 f38 f39 f40 f41 f42 f43 f44 f45 f46 f47 f48 f49 f50 f51 f52 f53 f54 f55 f56 f57 f58 f59 f60 f61 f62 f63 f64 f65 f66 f67 f68 f69 f70 f71 f72 f73 f74 f75 f76 f77 f78 f79 f80 f81 f82 f83 f84 f85 f86 f87 f88 f89 f90 f91 f92 f93 f94 f95 f96 f97 f98 f99 f100 f101 f102 f103 f104 f105 f106 f107 f108 f109 f110 f111 f112 f113 f114 f115 f116 f117 f118 : Value)
    (HQ : Hid (∀ (x_11 x_12 x_13 x_14 x_15 x_16 x_17 x_18 x_19 x_20 x_21 x_22 x_23 x_24 x_25 x_26 x_27 x_28 x_29 x_30 x_31 x_32 x_33 x_34 : Value) (b5 : Nat) (wx : World), w.heap.size + 1 < b5 → wx.heap[b5]? = some (.cells #[I 0, I 0, I (withS T x0 x1), I (withS T x2 x3), I 0, I 0, I 0, I 0, I 0, I 0, I 0] 75 (0, 0)) → Below u.heap.size u wx → Q .normal ⟨#[f0, .slice a L.length cap, .int .i64 i, .int .i64 n, .pointer (some ⟨w.heap.size, 0, none⟩), f5, f6, f7, f8, .pointer (some ⟨b5, 0, none⟩), f10, x_11, x_12, x_13, x_14, x_15, x_16, x_17, x_18, x_19, x_20, x_21, x_22, x_23, x_24, x_25, x_26, x_27, x_28, x_29, x_30, x_31, x_32, x_33, x_34, f35, f36, f37, f38, f39, f40, f41, f42, f43, f44, f45, f46, f47, f48, f49, f50, f51, f52, f53, f54, f55, f56, f57, f58, f59, f60, f61, f62, f63, f64, f65, f66, f67, f68, f69, f70, f71, f72, f73, f74, f75, f76, f77, f78, f79, f80, f81, f82, f83, f84, f85, f86, f87, f88, f89, f90, f91, f92, f93, f94, f95, f96, f97, f98, f99, f100, f101, f102, f103, f104, f105, f106, f107, f108, f109, f110, f111, f112, f113, f114, f115, f116, f117, f118], []⟩ wx)) :
    (rg 1 Try.f36).wp Try.prog Q ⟨#[f0, .slice a L.length cap, .int .i64 i, .int .i64 n, .pointer (some ⟨w.heap.size, 0, none⟩), f5, f6, f7, f8, f9, f10, f11, f12, f13, f14, f15, f16, f17, f18, f19, f20, f21, f22, f23, f24, f25, f26, f27, f28, f29, f30, f31, f32, f33, f34, f35, f36, f37, f38, f39, f40, f41, f42, f43, f44, f45, f46, f47, f48, f49, f50, f51, f52, f53, f54, f55, f56, f57, f58, f59, f60, f61, f62, f63, f64, f65, f66, f67, f68, f69, f70, f71, f72, f73, f74, f75, f76, f77, f78, f79, f80, f81, f82, f83, f84, f85, f86, f87, f88, f89, f90, f91, f92, f93, f94, f95, f96, f97, f98, f99, f100, f101, f102, f103, f104, f105, f106, f107, f108, f109, f110, f111, f112, f113, f114, f115, f116, f117, f118], []⟩ u := by
  conv => arg 2; whnf
  have e1 : IntKind.i64.wrap (i + 1) = i + 1 := by rw [IntKind.wrap_i64]; omega
  have e2 : IntKind.i64.wrap (i + 2) = i + 2 := by rw [IntKind.wrap_i64]; omega
  have e3 : IntKind.i64.wrap (i + 3) = i + 3 := by rw [IntKind.wrap_i64]; omega
  refine wp_region_held (S := fun w' => Below u.heap.size u w') (by kernel_rfl) ?_
  have hS : Below u.heap.size u { u with drawn := u.drawn + 1 } := (Below.refl _ _).drew
  generalize ({ u with drawn := u.drawn + 1 } : World) = v at hS ⊢
  refine Held.take_load (i := 0) (some 11) rfl 45 _ ⟨w.heap.size, 0, none⟩ c _ rfl rfl (by kernel_rfl) (by kernel_rfl) (by kernel_rfl) (fun c a w h => hP c _ a w (by rfl) h) (by rfl) hS rfl (LT.out) Try.underlying45 rfl IA.out ?_
  (try dsimp only [Act.put]); (try simp only [List.setIfInBounds_toArray, List.set_cons_zero, List.set_cons_succ])
  refine Held.take (i := 1) (some 12) rfl (v := ?_) rfl (by kernel_rfl) (by kernel_rfl) (by kernel_rfl) (fun c a w h => hP c _ a w (by rfl) h) (Or.inl ⟨by rfl, ?_⟩) hS ?_
  rotate_left
  · intro w' hw'
    go_simp
    try with_reducible rfl
  (try dsimp only [Act.put]); (try simp only [List.setIfInBounds_toArray, List.set_cons_zero, List.set_cons_succ])
  refine Held.take (i := 2) (some 13) rfl (v := ?_) rfl (by kernel_rfl) (by kernel_rfl) (by kernel_rfl) (fun c a w h => hP c _ a w (by rfl) h) (Or.inl ⟨by rfl, ?_⟩) hS ?_
  rotate_left
  · intro w' hw'
    go_simp
    try with_reducible rfl
  (try dsimp only [Act.put]); (try simp only [List.setIfInBounds_toArray, List.set_cons_zero, List.set_cons_succ])
  refine Held.take (i := 3) (some 14) rfl (v := ?_) rfl (by kernel_rfl) (by kernel_rfl) (by kernel_rfl) (fun c a w h => hP c _ a w (by rfl) h) (Or.inl ⟨by rfl, ?_⟩) hS ?_
  rotate_left
  · intro w' hw'
    go_simp
    try with_reducible rfl
  (try dsimp only [Act.put]); (try simp only [List.setIfInBounds_toArray, List.set_cons_zero, List.set_cons_succ])
  refine Held.take (i := 5) (some 16) rfl (v := ?_) rfl (by kernel_rfl) (by kernel_rfl) (by kernel_rfl) (fun c a w h => hP c _ a w (by rfl) h) (Or.inl ⟨by rfl, ?_⟩) hS ?_
  rotate_left
  · intro w' hw'
    go_simp
    try with_reducible rfl
  (try dsimp only [Act.put]); (try simp only [List.setIfInBounds_toArray, List.set_cons_zero, List.set_cons_succ])
  refine Held.take (i := 6) (some 17) rfl (v := ?_) rfl (by kernel_rfl) (by kernel_rfl) (by kernel_rfl) (fun c a w h => hP c _ a w (by rfl) h) (Or.inl ⟨by rfl, ?_⟩) hS ?_
  rotate_left
  · intro w' hw'
    go_simp
    try with_reducible rfl
  (try dsimp only [Act.put]); (try simp only [List.setIfInBounds_toArray, List.set_cons_zero, List.set_cons_succ])
  refine Held.take (i := 7) (some 18) rfl (v := ?_) rfl (by kernel_rfl) (by kernel_rfl) (by kernel_rfl) (fun c a w h => hP c _ a w (by rfl) h) (Or.inl ⟨by rfl, ?_⟩) hS ?_
  rotate_left
  · intro w' hw'
    go_simp
    try with_reducible rfl
  (try dsimp only [Act.put]); (try simp only [List.setIfInBounds_toArray, List.set_cons_zero, List.set_cons_succ])
  refine Held.take (i := 8) (some 19) rfl (v := ?_) rfl (by kernel_rfl) (by kernel_rfl) (by kernel_rfl) (fun c a w h => hP c _ a w (by rfl) h) (Or.inl ⟨by rfl, ?_⟩) hS ?_
  rotate_left
  · intro w' hw'
    go_simp
    try with_reducible rfl
  (try dsimp only [Act.put]); (try simp only [List.setIfInBounds_toArray, List.set_cons_zero, List.set_cons_succ])
  refine Held.take_load (i := 11) (some 22) rfl 45 _ ⟨w.heap.size, 0, none⟩ c _ rfl rfl (by kernel_rfl) (by kernel_rfl) (by kernel_rfl) (fun c a w h => hP c _ a w (by rfl) h) (by rfl) hS rfl (LT.out) Try.underlying45 rfl IA.out ?_
  (try dsimp only [Act.put]); (try simp only [List.setIfInBounds_toArray, List.set_cons_zero, List.set_cons_succ])
  refine Held.take (i := 12) (some 23) rfl (v := ?_) rfl (by kernel_rfl) (by kernel_rfl) (by kernel_rfl) (fun c a w h => hP c _ a w (by rfl) h) (Or.inl ⟨by rfl, ?_⟩) hS ?_
  rotate_left
  · intro w' hw'
    go_simp
    try with_reducible rfl
  (try dsimp only [Act.put]); (try simp only [List.setIfInBounds_toArray, List.set_cons_zero, List.set_cons_succ])
  refine Held.take (i := 13) (some 24) rfl (v := ?_) rfl (by kernel_rfl) (by kernel_rfl) (by kernel_rfl) (fun c a w h => hP c _ a w (by rfl) h) (Or.inl ⟨by rfl, ?_⟩) hS ?_
  rotate_left
  · intro w' hw'
    go_simp
    try with_reducible rfl
  (try dsimp only [Act.put]); (try simp only [List.setIfInBounds_toArray, List.set_cons_zero, List.set_cons_succ])
  refine Held.take (i := 14) (some 25) rfl (v := ?_) rfl (by kernel_rfl) (by kernel_rfl) (by kernel_rfl) (fun c a w h => hP c _ a w (by rfl) h) (Or.inl ⟨by rfl, ?_⟩) hS ?_
  rotate_left
  · intro w' hw'
    go_simp
    try with_reducible rfl
  (try dsimp only [Act.put]); (try simp only [List.setIfInBounds_toArray, List.set_cons_zero, List.set_cons_succ])
  refine Held.take (i := 15) (some 26) rfl (v := ?_) rfl (by kernel_rfl) (by kernel_rfl) (by kernel_rfl) (fun c a w h => hP c _ a w (by rfl) h) (Or.inl ⟨by rfl, ?_⟩) hS ?_
  rotate_left
  · intro w' hw'
    go_simp
    try with_reducible rfl
  (try dsimp only [Act.put]); (try simp only [List.setIfInBounds_toArray, List.set_cons_zero, List.set_cons_succ])
  refine Held.take (i := 17) (some 28) rfl (v := ?_) rfl (by kernel_rfl) (by kernel_rfl) (by kernel_rfl) (fun c a w h => hP c _ a w (by rfl) h) (Or.inl ⟨by rfl, ?_⟩) hS ?_
  rotate_left
  · intro w' hw'
    go_simp
    try with_reducible rfl
  (try dsimp only [Act.put]); (try simp only [List.setIfInBounds_toArray, List.set_cons_zero, List.set_cons_succ])
  refine Held.take (i := 18) (some 29) rfl (v := ?_) rfl (by kernel_rfl) (by kernel_rfl) (by kernel_rfl) (fun c a w h => hP c _ a w (by rfl) h) (Or.inl ⟨by rfl, ?_⟩) hS ?_
  rotate_left
  · intro w' hw'
    go_simp
    try with_reducible rfl
  (try dsimp only [Act.put]); (try simp only [List.setIfInBounds_toArray, List.set_cons_zero, List.set_cons_succ])
  refine Held.take (i := 19) (some 30) rfl (v := ?_) rfl (by kernel_rfl) (by kernel_rfl) (by kernel_rfl) (fun c a w h => hP c _ a w (by rfl) h) (Or.inl ⟨by rfl, ?_⟩) hS ?_
  rotate_left
  · intro w' hw'
    go_simp
    try with_reducible rfl
  (try dsimp only [Act.put]); (try simp only [List.setIfInBounds_toArray, List.set_cons_zero, List.set_cons_succ])
  refine Held.take (i := 20) (some 31) rfl (v := ?_) rfl (by kernel_rfl) (by kernel_rfl) (by kernel_rfl) (fun c a w h => hP c _ a w (by rfl) h) (Or.inl ⟨by rfl, ?_⟩) hS ?_
  rotate_left
  · intro w' hw'
    go_simp
    try with_reducible rfl
  (try dsimp only [Act.put]); (try simp only [List.setIfInBounds_toArray, List.set_cons_zero, List.set_cons_succ])
  refine wpAnyH_ready (rs := [4, 24]) (by kernel_rfl) (by simp) (AllReadyH.cons rfl (fun K hK => ?_) (AllReadyH.cons rfl (fun K hK => ?_) AllReadyH.nil))
  · go_simp
    refine (F0.out _ (HB.out.trans (hS.mono HB.out.size))).mono ?_
    rintro e w' ⟨rfl, hq⟩
    subst w'
    go_simp
    refine hK.out _ _ hS (fun hS => ?_)
    clear hK K
    refine wpAnyH_ready (rs := [9, 24]) (by kernel_rfl) (by simp) (AllReadyH.cons rfl (fun K hK => ?_) (AllReadyH.cons rfl (fun K hK => ?_) AllReadyH.nil))
    · go_simp
      refine (F1.out _ (HB.out.trans (hS.mono HB.out.size))).mono ?_
      rintro e w' ⟨rfl, hq⟩
      subst w'
      go_simp
      refine hK.out _ _ hS (fun hS => ?_)
      clear hK K
      refine wpAnyH_ready (rs := [10, 24]) (by kernel_rfl) (by simp) (AllReadyH.cons rfl (fun K hK => ?_) (AllReadyH.cons rfl (fun K hK => ?_) AllReadyH.nil))
      · go_simp
        refine (WC.out x0 x1 _ (HB.out.trans (hS.mono HB.out.size))).mono ?_
        rintro e v ⟨rfl, hb⟩
        go_simp
        refine hK.out _ _ (Below.trans hS (hb.mono hS.size)) (fun hS => ?_)
        clear hK K hb
        refine wpAnyH_ready (rs := [16, 24]) (by kernel_rfl) (by simp) (AllReadyH.cons rfl (fun K hK => ?_) (AllReadyH.cons rfl (fun K hK => ?_) AllReadyH.nil))
        · go_simp
          refine (F2.out _ (HB.out.trans (hS.mono HB.out.size))).mono ?_
          rintro e w' ⟨rfl, hq⟩
          subst w'
          go_simp
          refine hK.out _ _ hS (fun hS => ?_)
          clear hK K
          refine wpAnyH_ready (rs := [21, 24]) (by kernel_rfl) (by simp) (AllReadyH.cons rfl (fun K hK => ?_) (AllReadyH.cons rfl (fun K hK => ?_) AllReadyH.nil))
          · go_simp
            refine (F3.out _ (HB.out.trans (hS.mono HB.out.size))).mono ?_
            rintro e w' ⟨rfl, hq⟩
            subst w'
            go_simp
            refine hK.out _ _ hS (fun hS => ?_)
            clear hK K
            refine wpAnyH_ready (rs := [22, 24]) (by kernel_rfl) (by simp) (AllReadyH.cons rfl (fun K hK => ?_) (AllReadyH.cons rfl (fun K hK => ?_) AllReadyH.nil))
            · go_simp
              refine (WC.out x2 x3 _ (HB.out.trans (hS.mono HB.out.size))).mono ?_
              rintro e v ⟨rfl, hb⟩
              go_simp
              refine hK.out _ _ (Below.trans hS (hb.mono hS.size)) (fun hS => ?_)
              clear hK K hb
              refine Held.take (i := 23) (some 34) rfl (v := ?_) rfl (by kernel_rfl) (by kernel_rfl) (by kernel_rfl) (fun c a w h => hP c _ a w (by rfl) h) (Or.inl ⟨by rfl, ?_⟩) hS ?_
              rotate_left
              · intro w' hw'
                go_simp
                try with_reducible rfl
              (try dsimp only [Act.put]); (try simp only [List.setIfInBounds_toArray, List.set_cons_zero, List.set_cons_succ])
              refine wpAnyH_ready (rs := [24]) (by kernel_rfl) (by simp) (AllReadyH.cons rfl (fun K hK => ?_) AllReadyH.nil)
              go_simp
              have g5 := heap_alloc_new v (.cells #[I 0, I 0, I 0, I 0, I 0, I 0, I 0, I 0, I 0, I 0, I 0] 75)
              have b5lt : w.heap.size + 1 < v.heap.size := by have := HS.out; have := hS.size; omega
              have b5u : u.heap.size ≤ v.heap.size := hS.size
              refine hK.out _ _ (hS.alloc hS.size _) (fun hS => ?_)
              clear hK K
              generalize v.heap.size = b5 at g5 b5lt b5u ⊢
              generalize World.alloc v _ = v at g5 hS ⊢
              have G5 := Lib.hid g5
              clear g5
              refine wpAnyH_ready (rs := [25]) (by kernel_rfl) (by simp) (AllReadyH.cons rfl (fun K hK => ?_) AllReadyH.nil)
              rw [if_pos (by rfl)]
              refine Same.wp_store_whole 75 _ _ rfl b5 #[I 0, I 0, I (withS T x0 x1), I (withS T x2 x3), I 0, I 0, I 0, I 0, I 0, I 0, I 0] rfl rfl 75 _ G5.out infoR rfl (by simp [Value.oneCell']) rfl ?_
              have hS2 := below_setRow hS (g := b5) (by omega) #[I 0, I 0, I (withS T x0 x1), I (withS T x2 x3), I 0, I 0, I 0, I 0, I 0, I 0, I 0]
              have g5 := setRow_heap v b5 _ #[I 0, I 0, I (withS T x0 x1), I (withS T x2 x3), I 0, I 0, I 0, I 0, I 0, I 0, I 0] _ _ G5.out
              clear G5 hS
              generalize v.setRow _ _ = v at hS2 g5 ⊢
              refine hK.out _ _ hS2 (fun hS => ?_)
              clear hK K hS2
              refine wpAnyH_done (by kernel_rfl) ?_ _
              exact HQ.out _ _ _ _ _ _ _ _ _ _ _ _ _ _ _ _ _ _ _ _ _ _ _ _ b5 _ b5lt g5 hS
            · go_simp
              have g5 := heap_alloc_new v (.cells #[I 0, I 0, I 0, I 0, I 0, I 0, I 0, I 0, I 0, I 0, I 0] 75)
              have b5lt : w.heap.size + 1 < v.heap.size := by have := HS.out; have := hS.size; omega
              have b5u : u.heap.size ≤ v.heap.size := hS.size
              refine hK.out _ _ (hS.alloc hS.size _) (fun hS => ?_)
              clear hK K
              generalize v.heap.size = b5 at g5 b5lt b5u ⊢
              generalize World.alloc v _ = v at g5 hS ⊢
              have G5 := Lib.hid g5
              clear g5
              refine wpAnyH_ready (rs := [22]) (by kernel_rfl) (by simp) (AllReadyH.cons rfl (fun K hK => ?_) AllReadyH.nil)
              go_simp
              refine (WC.out x2 x3 _ (HB.out.trans (hS.mono HB.out.size))).mono ?_
              rintro e v ⟨rfl, hb⟩
              go_simp
              have G5b := Lib.hid ((hb.block _ (Array.getElem?_eq_some_iff.1 G5.out).1).trans G5.out)
              clear G5
              have G5 := G5b
              clear G5b
              refine hK.out _ _ (Below.trans hS (hb.mono hS.size)) (fun hS => ?_)
              clear hK K hb
              refine Held.take (i := 23) (some 34) rfl (v := ?_) rfl (by kernel_rfl) (by kernel_rfl) (by kernel_rfl) (fun c a w h => hP c _ a w (by rfl) h) (Or.inl ⟨by rfl, ?_⟩) hS ?_
              rotate_left
              · intro w' hw'
                go_simp
                try with_reducible rfl
              (try dsimp only [Act.put]); (try simp only [List.setIfInBounds_toArray, List.set_cons_zero, List.set_cons_succ])
              refine wpAnyH_ready (rs := [25]) (by kernel_rfl) (by simp) (AllReadyH.cons rfl (fun K hK => ?_) AllReadyH.nil)
              rw [if_pos (by rfl)]
              refine Same.wp_store_whole 75 _ _ rfl b5 #[I 0, I 0, I (withS T x0 x1), I (withS T x2 x3), I 0, I 0, I 0, I 0, I 0, I 0, I 0] rfl rfl 75 _ G5.out infoR rfl (by simp [Value.oneCell']) rfl ?_
              have hS2 := below_setRow hS (g := b5) (by omega) #[I 0, I 0, I (withS T x0 x1), I (withS T x2 x3), I 0, I 0, I 0, I 0, I 0, I 0, I 0]
              have g5 := setRow_heap v b5 _ #[I 0, I 0, I (withS T x0 x1), I (withS T x2 x3), I 0, I 0, I 0, I 0, I 0, I 0, I 0] _ _ G5.out
              clear G5 hS
              generalize v.setRow _ _ = v at hS2 g5 ⊢
              refine hK.out _ _ hS2 (fun hS => ?_)
              clear hK K hS2
              refine wpAnyH_done (by kernel_rfl) ?_ _
              exact HQ.out _ _ _ _ _ _ _ _ _ _ _ _ _ _ _ _ _ _ _ _ _ _ _ _ b5 _ b5lt g5 hS
          · go_simp
            have g5 := heap_alloc_new v (.cells #[I 0, I 0, I 0, I 0, I 0, I 0, I 0, I 0, I 0, I 0, I 0] 75)
            have b5lt : w.heap.size + 1 < v.heap.size := by have := HS.out; have := hS.size; omega
            have b5u : u.heap.size ≤ v.heap.size := hS.size
            refine hK.out _ _ (hS.alloc hS.size _) (fun hS => ?_)
            clear hK K
            generalize v.heap.size = b5 at g5 b5lt b5u ⊢
            generalize World.alloc v _ = v at g5 hS ⊢
            have G5 := Lib.hid g5
            clear g5
            refine wpAnyH_ready (rs := [21]) (by kernel_rfl) (by simp) (AllReadyH.cons rfl (fun K hK => ?_) AllReadyH.nil)
            go_simp
            refine (F3.out _ (HB.out.trans (hS.mono HB.out.size))).mono ?_
            rintro e w' ⟨rfl, hq⟩
            subst w'
            go_simp
            refine hK.out _ _ hS (fun hS => ?_)
            clear hK K
            refine wpAnyH_ready (rs := [22]) (by kernel_rfl) (by simp) (AllReadyH.cons rfl (fun K hK => ?_) AllReadyH.nil)
            go_simp
            refine (WC.out x2 x3 _ (HB.out.trans (hS.mono HB.out.size))).mono ?_
            rintro e v ⟨rfl, hb⟩
            go_simp
            have G5b := Lib.hid ((hb.block _ (Array.getElem?_eq_some_iff.1 G5.out).1).trans G5.out)
            clear G5
            have G5 := G5b
            clear G5b
            refine hK.out _ _ (Below.trans hS (hb.mono hS.size)) (fun hS => ?_)
            clear hK K hb
            refine Held.take (i := 23) (some 34) rfl (v := ?_) rfl (by kernel_rfl) (by kernel_rfl) (by kernel_rfl) (fun c a w h => hP c _ a w (by rfl) h) (Or.inl ⟨by rfl, ?_⟩) hS ?_
            rotate_left
            · intro w' hw'
              go_simp
              try with_reducible rfl
            (try dsimp only [Act.put]); (try simp only [List.setIfInBounds_toArray, List.set_cons_zero, List.set_cons_succ])
            refine wpAnyH_ready (rs := [25]) (by kernel_rfl) (by simp) (AllReadyH.cons rfl (fun K hK => ?_) AllReadyH.nil)
            rw [if_pos (by rfl)]
            refine Same.wp_store_whole 75 _ _ rfl b5 #[I 0, I 0, I (withS T x0 x1), I (withS T x2 x3), I 0, I 0, I 0, I 0, I 0, I 0, I 0] rfl rfl 75 _ G5.out infoR rfl (by simp [Value.oneCell']) rfl ?_
            have hS2 := below_setRow hS (g := b5) (by omega) #[I 0, I 0, I (withS T x0 x1), I (withS T x2 x3), I 0, I 0, I 0, I 0, I 0, I 0, I 0]
            have g5 := setRow_heap v b5 _ #[I 0, I 0, I (withS T x0 x1), I (withS T x2 x3), I 0, I 0, I 0, I 0, I 0, I 0, I 0] _ _ G5.out
            clear G5 hS
            generalize v.setRow _ _ = v at hS2 g5 ⊢
            refine hK.out _ _ hS2 (fun hS => ?_)
            clear hK K hS2
            refine wpAnyH_done (by kernel_rfl) ?_ _
            exact HQ.out _ _ _ _ _ _ _ _ _ _ _ _ _ _ _ _ _ _ _ _ _ _ _ _ b5 _ b5lt g5 hS
        · go_simp
          have g5 := heap_alloc_new v (.cells #[I 0, I 0, I 0, I 0, I 0, I 0, I 0, I 0, I 0, I 0, I 0] 75)
          have b5lt : w.heap.size + 1 < v.heap.size := by have := HS.out; have := hS.size; omega
          have b5u : u.heap.size ≤ v.heap.size := hS.size
          refine hK.out _ _ (hS.alloc hS.size _) (fun hS => ?_)
          clear hK K
          generalize v.heap.size = b5 at g5 b5lt b5u ⊢
          generalize World.alloc v _ = v at g5 hS ⊢
          have G5 := Lib.hid g5
          clear g5
          refine wpAnyH_ready (rs := [16]) (by kernel_rfl) (by simp) (AllReadyH.cons rfl (fun K hK => ?_) AllReadyH.nil)
          go_simp
          refine (F2.out _ (HB.out.trans (hS.mono HB.out.size))).mono ?_
          rintro e w' ⟨rfl, hq⟩
          subst w'
          go_simp
          refine hK.out _ _ hS (fun hS => ?_)
          clear hK K
          refine wpAnyH_ready (rs := [21]) (by kernel_rfl) (by simp) (AllReadyH.cons rfl (fun K hK => ?_) AllReadyH.nil)
          go_simp
          refine (F3.out _ (HB.out.trans (hS.mono HB.out.size))).mono ?_
          rintro e w' ⟨rfl, hq⟩
          subst w'
          go_simp
          refine hK.out _ _ hS (fun hS => ?_)
          clear hK K
          refine wpAnyH_ready (rs := [22]) (by kernel_rfl) (by simp) (AllReadyH.cons rfl (fun K hK => ?_) AllReadyH.nil)
          go_simp
          refine (WC.out x2 x3 _ (HB.out.trans (hS.mono HB.out.size))).mono ?_
          rintro e v ⟨rfl, hb⟩
          go_simp
          have G5b := Lib.hid ((hb.block _ (Array.getElem?_eq_some_iff.1 G5.out).1).trans G5.out)
          clear G5
          have G5 := G5b
          clear G5b
          refine hK.out _ _ (Below.trans hS (hb.mono hS.size)) (fun hS => ?_)
          clear hK K hb
          refine Held.take (i := 23) (some 34) rfl (v := ?_) rfl (by kernel_rfl) (by kernel_rfl) (by kernel_rfl) (fun c a w h => hP c _ a w (by rfl) h) (Or.inl ⟨by rfl, ?_⟩) hS ?_
          rotate_left
          · intro w' hw'
            go_simp
            try with_reducible rfl
          (try dsimp only [Act.put]); (try simp only [List.setIfInBounds_toArray, List.set_cons_zero, List.set_cons_succ])
          refine wpAnyH_ready (rs := [25]) (by kernel_rfl) (by simp) (AllReadyH.cons rfl (fun K hK => ?_) AllReadyH.nil)
          rw [if_pos (by rfl)]
          refine Same.wp_store_whole 75 _ _ rfl b5 #[I 0, I 0, I (withS T x0 x1), I (withS T x2 x3), I 0, I 0, I 0, I 0, I 0, I 0, I 0] rfl rfl 75 _ G5.out infoR rfl (by simp [Value.oneCell']) rfl ?_
          have hS2 := below_setRow hS (g := b5) (by omega) #[I 0, I 0, I (withS T x0 x1), I (withS T x2 x3), I 0, I 0, I 0, I 0, I 0, I 0, I 0]
          have g5 := setRow_heap v b5 _ #[I 0, I 0, I (withS T x0 x1), I (withS T x2 x3), I 0, I 0, I 0, I 0, I 0, I 0, I 0] _ _ G5.out
          clear G5 hS
          generalize v.setRow _ _ = v at hS2 g5 ⊢
          refine hK.out _ _ hS2 (fun hS => ?_)
          clear hK K hS2
          refine wpAnyH_done (by kernel_rfl) ?_ _
          exact HQ.out _ _ _ _ _ _ _ _ _ _ _ _ _ _ _ _ _ _ _ _ _ _ _ _ b5 _ b5lt g5 hS
      · go_simp
        have g5 := heap_alloc_new v (.cells #[I 0, I 0, I 0, I 0, I 0, I 0, I 0, I 0, I 0, I 0, I 0] 75)
        have b5lt : w.heap.size + 1 < v.heap.size := by have := HS.out; have := hS.size; omega
        have b5u : u.heap.size ≤ v.heap.size := hS.size
        refine hK.out _ _ (hS.alloc hS.size _) (fun hS => ?_)
        clear hK K
        generalize v.heap.size = b5 at g5 b5lt b5u ⊢
        generalize World.alloc v _ = v at g5 hS ⊢
        have G5 := Lib.hid g5
        clear g5
        refine wpAnyH_ready (rs := [10]) (by kernel_rfl) (by simp) (AllReadyH.cons rfl (fun K hK => ?_) AllReadyH.nil)
        go_simp
        refine (WC.out x0 x1 _ (HB.out.trans (hS.mono HB.out.size))).mono ?_
        rintro e v ⟨rfl, hb⟩
        go_simp
        have G5b := Lib.hid ((hb.block _ (Array.getElem?_eq_some_iff.1 G5.out).1).trans G5.out)
        clear G5
        have G5 := G5b
        clear G5b
        refine hK.out _ _ (Below.trans hS (hb.mono hS.size)) (fun hS => ?_)
        clear hK K hb
        refine wpAnyH_ready (rs := [16]) (by kernel_rfl) (by simp) (AllReadyH.cons rfl (fun K hK => ?_) AllReadyH.nil)
        go_simp
        refine (F2.out _ (HB.out.trans (hS.mono HB.out.size))).mono ?_
        rintro e w' ⟨rfl, hq⟩
        subst w'
        go_simp
        refine hK.out _ _ hS (fun hS => ?_)
        clear hK K
        refine wpAnyH_ready (rs := [21]) (by kernel_rfl) (by simp) (AllReadyH.cons rfl (fun K hK => ?_) AllReadyH.nil)
        go_simp
        refine (F3.out _ (HB.out.trans (hS.mono HB.out.size))).mono ?_
        rintro e w' ⟨rfl, hq⟩
        subst w'
        go_simp
        refine hK.out _ _ hS (fun hS => ?_)
        clear hK K
        refine wpAnyH_ready (rs := [22]) (by kernel_rfl) (by simp) (AllReadyH.cons rfl (fun K hK => ?_) AllReadyH.nil)
        go_simp
        refine (WC.out x2 x3 _ (HB.out.trans (hS.mono HB.out.size))).mono ?_
        rintro e v ⟨rfl, hb⟩
        go_simp
        have G5b := Lib.hid ((hb.block _ (Array.getElem?_eq_some_iff.1 G5.out).1).trans G5.out)
        clear G5
        have G5 := G5b
        clear G5b
        refine hK.out _ _ (Below.trans hS (hb.mono hS.size)) (fun hS => ?_)
        clear hK K hb
        refine Held.take (i := 23) (some 34) rfl (v := ?_) rfl (by kernel_rfl) (by kernel_rfl) (by kernel_rfl) (fun c a w h => hP c _ a w (by rfl) h) (Or.inl ⟨by rfl, ?_⟩) hS ?_
        rotate_left
        · intro w' hw'
          go_simp
          try with_reducible rfl
        (try dsimp only [Act.put]); (try simp only [List.setIfInBounds_toArray, List.set_cons_zero, List.set_cons_succ])
        refine wpAnyH_ready (rs := [25]) (by kernel_rfl) (by simp) (AllReadyH.cons rfl (fun K hK => ?_) AllReadyH.nil)
        rw [if_pos (by rfl)]
        refine Same.wp_store_whole 75 _ _ rfl b5 #[I 0, I 0, I (withS T x0 x1), I (withS T x2 x3), I 0, I 0, I 0, I 0, I 0, I 0, I 0] rfl rfl 75 _ G5.out infoR rfl (by simp [Value.oneCell']) rfl ?_
        have hS2 := below_setRow hS (g := b5) (by omega) #[I 0, I 0, I (withS T x0 x1), I (withS T x2 x3), I 0, I 0, I 0, I 0, I 0, I 0, I 0]
        have g5 := setRow_heap v b5 _ #[I 0, I 0, I (withS T x0 x1), I (withS T x2 x3), I 0, I 0, I 0, I 0, I 0, I 0, I 0] _ _ G5.out
        clear G5 hS
        generalize v.setRow _ _ = v at hS2 g5 ⊢
        refine hK.out _ _ hS2 (fun hS => ?_)
        clear hK K hS2
        refine wpAnyH_done (by kernel_rfl) ?_ _
        exact HQ.out _ _ _ _ _ _ _ _ _ _ _ _ _ _ _ _ _ _ _ _ _ _ _ _ b5 _ b5lt g5 hS
    · go_simp
      have g5 := heap_alloc_new v (.cells #[I 0, I 0, I 0, I 0, I 0, I 0, I 0, I 0, I 0, I 0, I 0] 75)
      have b5lt : w.heap.size + 1 < v.heap.size := by have := HS.out; have := hS.size; omega
      have b5u : u.heap.size ≤ v.heap.size := hS.size
      refine hK.out _ _ (hS.alloc hS.size _) (fun hS => ?_)
      clear hK K
      generalize v.heap.size = b5 at g5 b5lt b5u ⊢
      generalize World.alloc v _ = v at g5 hS ⊢
      have G5 := Lib.hid g5
      clear g5
      refine wpAnyH_ready (rs := [9]) (by kernel_rfl) (by simp) (AllReadyH.cons rfl (fun K hK => ?_) AllReadyH.nil)
      go_simp
      refine (F1.out _ (HB.out.trans (hS.mono HB.out.size))).mono ?_
      rintro e w' ⟨rfl, hq⟩
      subst w'
      go_simp
      refine hK.out _ _ hS (fun hS => ?_)
      clear hK K
      refine wpAnyH_ready (rs := [10]) (by kernel_rfl) (by simp) (AllReadyH.cons rfl (fun K hK => ?_) AllReadyH.nil)
      go_simp
      refine (WC.out x0 x1 _ (HB.out.trans (hS.mono HB.out.size))).mono ?_
      rintro e v ⟨rfl, hb⟩
      go_simp
      have G5b := Lib.hid ((hb.block _ (Array.getElem?_eq_some_iff.1 G5.out).1).trans G5.out)
      clear G5
      have G5 := G5b
      clear G5b
      refine hK.out _ _ (Below.trans hS (hb.mono hS.size)) (fun hS => ?_)
      clear hK K hb
      refine wpAnyH_ready (rs := [16]) (by kernel_rfl) (by simp) (AllReadyH.cons rfl (fun K hK => ?_) AllReadyH.nil)
      go_simp
      refine (F2.out _ (HB.out.trans (hS.mono HB.out.size))).mono ?_
      rintro e w' ⟨rfl, hq⟩
      subst w'
      go_simp
      refine hK.out _ _ hS (fun hS => ?_)
      clear hK K
      refine wpAnyH_ready (rs := [21]) (by kernel_rfl) (by simp) (AllReadyH.cons rfl (fun K hK => ?_) AllReadyH.nil)
      go_simp
      refine (F3.out _ (HB.out.trans (hS.mono HB.out.size))).mono ?_
      rintro e w' ⟨rfl, hq⟩
      subst w'
      go_simp
      refine hK.out _ _ hS (fun hS => ?_)
      clear hK K
      refine wpAnyH_ready (rs := [22]) (by kernel_rfl) (by simp) (AllReadyH.cons rfl (fun K hK => ?_) AllReadyH.nil)
      go_simp
      refine (WC.out x2 x3 _ (HB.out.trans (hS.mono HB.out.size))).mono ?_
      rintro e v ⟨rfl, hb⟩
      go_simp
      have G5b := Lib.hid ((hb.block _ (Array.getElem?_eq_some_iff.1 G5.out).1).trans G5.out)
      clear G5
      have G5 := G5b
      clear G5b
      refine hK.out _ _ (Below.trans hS (hb.mono hS.size)) (fun hS => ?_)
      clear hK K hb
      refine Held.take (i := 23) (some 34) rfl (v := ?_) rfl (by kernel_rfl) (by kernel_rfl) (by kernel_rfl) (fun c a w h => hP c _ a w (by rfl) h) (Or.inl ⟨by rfl, ?_⟩) hS ?_
      rotate_left
      · intro w' hw'
        go_simp
        try with_reducible rfl
      (try dsimp only [Act.put]); (try simp only [List.setIfInBounds_toArray, List.set_cons_zero, List.set_cons_succ])
      refine wpAnyH_ready (rs := [25]) (by kernel_rfl) (by simp) (AllReadyH.cons rfl (fun K hK => ?_) AllReadyH.nil)
      rw [if_pos (by rfl)]
      refine Same.wp_store_whole 75 _ _ rfl b5 #[I 0, I 0, I (withS T x0 x1), I (withS T x2 x3), I 0, I 0, I 0, I 0, I 0, I 0, I 0] rfl rfl 75 _ G5.out infoR rfl (by simp [Value.oneCell']) rfl ?_
      have hS2 := below_setRow hS (g := b5) (by omega) #[I 0, I 0, I (withS T x0 x1), I (withS T x2 x3), I 0, I 0, I 0, I 0, I 0, I 0, I 0]
      have g5 := setRow_heap v b5 _ #[I 0, I 0, I (withS T x0 x1), I (withS T x2 x3), I 0, I 0, I 0, I 0, I 0, I 0, I 0] _ _ G5.out
      clear G5 hS
      generalize v.setRow _ _ = v at hS2 g5 ⊢
      refine hK.out _ _ hS2 (fun hS => ?_)
      clear hK K hS2
      refine wpAnyH_done (by kernel_rfl) ?_ _
      exact HQ.out _ _ _ _ _ _ _ _ _ _ _ _ _ _ _ _ _ _ _ _ _ _ _ _ b5 _ b5lt g5 hS
  · go_simp
    have g5 := heap_alloc_new v (.cells #[I 0, I 0, I 0, I 0, I 0, I 0, I 0, I 0, I 0, I 0, I 0] 75)
    have b5lt : w.heap.size + 1 < v.heap.size := by have := HS.out; have := hS.size; omega
    have b5u : u.heap.size ≤ v.heap.size := hS.size
    refine hK.out _ _ (hS.alloc hS.size _) (fun hS => ?_)
    clear hK K
    generalize v.heap.size = b5 at g5 b5lt b5u ⊢
    generalize World.alloc v _ = v at g5 hS ⊢
    have G5 := Lib.hid g5
    clear g5
    refine wpAnyH_ready (rs := [4]) (by kernel_rfl) (by simp) (AllReadyH.cons rfl (fun K hK => ?_) AllReadyH.nil)
    go_simp
    refine (F0.out _ (HB.out.trans (hS.mono HB.out.size))).mono ?_
    rintro e w' ⟨rfl, hq⟩
    subst w'
    go_simp
    refine hK.out _ _ hS (fun hS => ?_)
    clear hK K
    refine wpAnyH_ready (rs := [9]) (by kernel_rfl) (by simp) (AllReadyH.cons rfl (fun K hK => ?_) AllReadyH.nil)
    go_simp
    refine (F1.out _ (HB.out.trans (hS.mono HB.out.size))).mono ?_
    rintro e w' ⟨rfl, hq⟩
    subst w'
    go_simp
    refine hK.out _ _ hS (fun hS => ?_)
    clear hK K
    refine wpAnyH_ready (rs := [10]) (by kernel_rfl) (by simp) (AllReadyH.cons rfl (fun K hK => ?_) AllReadyH.nil)
    go_simp
    refine (WC.out x0 x1 _ (HB.out.trans (hS.mono HB.out.size))).mono ?_
    rintro e v ⟨rfl, hb⟩
    go_simp
    have G5b := Lib.hid ((hb.block _ (Array.getElem?_eq_some_iff.1 G5.out).1).trans G5.out)
    clear G5
    have G5 := G5b
    clear G5b
    refine hK.out _ _ (Below.trans hS (hb.mono hS.size)) (fun hS => ?_)
    clear hK K hb
    refine wpAnyH_ready (rs := [16]) (by kernel_rfl) (by simp) (AllReadyH.cons rfl (fun K hK => ?_) AllReadyH.nil)
    go_simp
    refine (F2.out _ (HB.out.trans (hS.mono HB.out.size))).mono ?_
    rintro e w' ⟨rfl, hq⟩
    subst w'
    go_simp
    refine hK.out _ _ hS (fun hS => ?_)
    clear hK K
    refine wpAnyH_ready (rs := [21]) (by kernel_rfl) (by simp) (AllReadyH.cons rfl (fun K hK => ?_) AllReadyH.nil)
    go_simp
    refine (F3.out _ (HB.out.trans (hS.mono HB.out.size))).mono ?_
    rintro e w' ⟨rfl, hq⟩
    subst w'
    go_simp
    refine hK.out _ _ hS (fun hS => ?_)
    clear hK K
    refine wpAnyH_ready (rs := [22]) (by kernel_rfl) (by simp) (AllReadyH.cons rfl (fun K hK => ?_) AllReadyH.nil)
    go_simp
    refine (WC.out x2 x3 _ (HB.out.trans (hS.mono HB.out.size))).mono ?_
    rintro e v ⟨rfl, hb⟩
    go_simp
    have G5b := Lib.hid ((hb.block _ (Array.getElem?_eq_some_iff.1 G5.out).1).trans G5.out)
    clear G5
    have G5 := G5b
    clear G5b
    refine hK.out _ _ (Below.trans hS (hb.mono hS.size)) (fun hS => ?_)
    clear hK K hb
    refine Held.take (i := 23) (some 34) rfl (v := ?_) rfl (by kernel_rfl) (by kernel_rfl) (by kernel_rfl) (fun c a w h => hP c _ a w (by rfl) h) (Or.inl ⟨by rfl, ?_⟩) hS ?_
    rotate_left
    · intro w' hw'
      go_simp
      try with_reducible rfl
    (try dsimp only [Act.put]); (try simp only [List.setIfInBounds_toArray, List.set_cons_zero, List.set_cons_succ])
    refine wpAnyH_ready (rs := [25]) (by kernel_rfl) (by simp) (AllReadyH.cons rfl (fun K hK => ?_) AllReadyH.nil)
    rw [if_pos (by rfl)]
    refine Same.wp_store_whole 75 _ _ rfl b5 #[I 0, I 0, I (withS T x0 x1), I (withS T x2 x3), I 0, I 0, I 0, I 0, I 0, I 0, I 0] rfl rfl 75 _ G5.out infoR rfl (by simp [Value.oneCell']) rfl ?_
    have hS2 := below_setRow hS (g := b5) (by omega) #[I 0, I 0, I (withS T x0 x1), I (withS T x2 x3), I 0, I 0, I 0, I 0, I 0, I 0, I 0]
    have g5 := setRow_heap v b5 _ #[I 0, I 0, I (withS T x0 x1), I (withS T x2 x3), I 0, I 0, I 0, I 0, I 0, I 0, I 0] _ _ G5.out
    clear G5 hS
    generalize v.setRow _ _ = v at hS2 g5 ⊢
    refine hK.out _ _ hS2 (fun hS => ?_)
    clear hK K hS2
    refine wpAnyH_done (by kernel_rfl) ?_ _
    exact HQ.out _ _ _ _ _ _ _ _ _ _ _ _ _ _ _ _ _ _ _ _ _ _ _ _ b5 _ b5lt g5 hS
end GenR
end Go.Proofs.Ytbpfknkbiaplpaa
