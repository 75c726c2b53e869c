/- 9 texts in one file, in build order. -/
import Derived.Test.YtkccepdifgldeaaDoorRows
import Derived.Test.YtkccepdifgldeaaDoorPart04
import Derived.Test.YtkccepdifgldeaaDoorPart01
import Derived.Laws.FloatArith
import Derived.Test.YtkccepdifgldeaaDoorPart02
import Derived.StillTailTactics
import Derived.Laws.Rows
import Derived.Deep.Cut
import Derived.Laws.ResultCell
import Derived.Great.BuildSlice
import Derived.WalkKit
import Derived.Test.YtkccepdifgldeaaDoorPart03
import Derived.Deep.CutRange
set_option linter.unusedVariables false
set_option linter.unusedSimpArgs false
set_option linter.unusedSectionVars false
set_option maxHeartbeats 8000000
set_option maxRecDepth 100000
namespace Go.Proofs.YtkccepdifgldeaaDoor
namespace GenD
open Go.ChangeShapes Go.WideShapes Go.ChangeAt Go.RowKit
open Tab Clone RefS
open May (infoD)
open Same (below_setRow)
theorem run_store_float {P : Program} {w : World} {a : Addr} {u : Value} {k : FloatKind} {v : Nat} (h : w.cell? a = some u) (hf : w.frozen? a = false) : Sem.run P (store a (.float k v)) w = .ok () (w.setCell a (.float k v)) := by
  rw [run_store P w a _ _ rfl]
  simp [stored, h, hf]
theorem infoDz : (Tryd.prog.info? 75).map (fun i => (i.zero, i.size)) = some (some (.agg #[I 0, F 0, F 0, F 0, F 0, I 0, I 0]), 7) := by kernel_rfl
def onTab (x : Int) : Nat := [4617315517961601024, 4621819117588971520, 4607182418800017408, 4602678819172646912].getD x.toNat 0
def facTab (x : Int) : Nat := [4602678819172646912, 4607182418800017408, 4598175219545276416].getD x.toNat 0
theorem idx4_0 (w : World) : Sem.run Tryd.prog (Instr.index 92 (.agg #[F 4617315517961601024, F 4621819117588971520, F 4607182418800017408, F 4602678819172646912]) (.int .i64 0)) w = .ok (F (onTab 0)) w := by kernel_rfl
theorem idx4_1 (w : World) : Sem.run Tryd.prog (Instr.index 92 (.agg #[F 4617315517961601024, F 4621819117588971520, F 4607182418800017408, F 4602678819172646912]) (.int .i64 1)) w = .ok (F (onTab 1)) w := by kernel_rfl
theorem idx4_2 (w : World) : Sem.run Tryd.prog (Instr.index 92 (.agg #[F 4617315517961601024, F 4621819117588971520, F 4607182418800017408, F 4602678819172646912]) (.int .i64 2)) w = .ok (F (onTab 2)) w := by kernel_rfl
theorem idx4_3 (w : World) : Sem.run Tryd.prog (Instr.index 92 (.agg #[F 4617315517961601024, F 4621819117588971520, F 4607182418800017408, F 4602678819172646912]) (.int .i64 3)) w = .ok (F (onTab 3)) w := by kernel_rfl
theorem idx4 (x : Int) (h0 : 0 ≤ x) (h1 : x < 4) (w : World) : Sem.run Tryd.prog (Instr.index 92 (.agg #[F 4617315517961601024, F 4621819117588971520, F 4607182418800017408, F 4602678819172646912]) (.int .i64 x)) w = .ok (F (onTab x)) w := by
  have : x = 0 ∨ x = 1 ∨ x = 2 ∨ x = 3 := by omega
  rcases this with rfl | rfl | rfl | rfl
  · exact idx4_0 w
  · exact idx4_1 w
  · exact idx4_2 w
  · exact idx4_3 w
theorem idx3_0 (w : World) : Sem.run Tryd.prog (Instr.index 93 (.agg #[F 4602678819172646912, F 4607182418800017408, F 4598175219545276416]) (.int .i64 0)) w = .ok (F (facTab 0)) w := by kernel_rfl
theorem idx3_1 (w : World) : Sem.run Tryd.prog (Instr.index 93 (.agg #[F 4602678819172646912, F 4607182418800017408, F 4598175219545276416]) (.int .i64 1)) w = .ok (F (facTab 1)) w := by kernel_rfl
theorem idx3_2 (w : World) : Sem.run Tryd.prog (Instr.index 93 (.agg #[F 4602678819172646912, F 4607182418800017408, F 4598175219545276416]) (.int .i64 2)) w = .ok (F (facTab 2)) w := by kernel_rfl
theorem idx3 (x : Int) (h0 : 0 ≤ x) (h1 : x < 3) (w : World) : Sem.run Tryd.prog (Instr.index 93 (.agg #[F 4602678819172646912, F 4607182418800017408, F 4598175219545276416]) (.int .i64 x)) w = .ok (F (facTab x)) w := by
  have : x = 0 ∨ x = 1 ∨ x = 2 := by omega
  rcases this with rfl | rfl | rfl
  · exact idx3_0 w
  · exact idx3_1 w
  · exact idx3_2 w
def mulTab (x y : Int) : Nat := (floatBits .mul .f64 (onTab x) (facTab y)).getD 0
theorem mul_ok (x y : Int) (h0 : 0 ≤ x) (h1 : x < 4) (k0 : 0 ≤ y) (k1 : y < 3) (t : TypeId) (w : World) : (binOp .mul t (F (onTab x)) (F (facTab y))).run Tryd.prog w = .ok (F (mulTab x y)) w := by
  refine run_float_arith w .mul t .f64 _ _ _ ?_
  have h : ∀ a : Nat, a < 4 → ∀ b : Nat, b < 3 → floatBits .mul .f64 (onTab a) (facTab b) = some (mulTab a b) := by decide +kernel
  have := h x.toNat (by omega) y.toNat (by omega)
  rwa [Int.toNat_of_nonneg h0, Int.toNat_of_nonneg k0] at this
/-- A detector by eight numbers. -/
def genDet (L : List Int) (i n : Int) : Det :=
  ⟨num L i n, onTab (num L (i + 1) 4), mulTab (num L (i + 1) 4) (num L (i + 2) 3), Fl.ofB (num L (i + 3) 4).toNat, Fl.ofB (num L (i + 4) 6).toNat,
    if num L (i + 5) 3 = 1 then 20 + num L (i + 6) 60 else 0, if num L (i + 5) 9 = 2 then 60 + num L (i + 7) 300 else 0⟩
theorem detector_any (a : Option Addr) (cap : Nat) (L : List Int) (i n : Int) (w : World) (h : IntRow w ⟨a, cap⟩ L) (h0 : 0 ≤ i) (h1 : i ≤ 100000) (n0 : 0 < n) (n8 : n ≤ 8) :
    Calls Tryd.prog 34 #[.slice a L.length cap, .int .i64 i, .int .i64 n] w fun e w' => e = .returned (.agg (genDet L i n).cells.toArray) ∧ Below w.heap.size w w' := by
  obtain ⟨x0, hx0, ⟨r0, s0⟩, F0⟩ : ∃ x : Int, x = num L i n ∧ (0 ≤ x ∧ x < n) ∧ Hid (∀ W, Below w.heap.size w W → Calls Tryd.prog 33 #[.slice a L.length cap, .int .i64 i, .int .i64 n] W fun e w' => e = .returned (.int .i64 x) ∧ w' = W) := ⟨_, rfl, num_range _ _ _ (by omega), Lib.hid (fun W hb => (from_any a cap L _ _ W (h.below hb) (by omega) (by omega) (by omega)).mono fun _ _ ⟨e, q⟩ => ⟨e, q.symm⟩)⟩
  obtain ⟨x1, hx1, ⟨r1, s1⟩, F1⟩ : ∃ x : Int, x = num L (i + 1) 4 ∧ (0 ≤ x ∧ x < 4) ∧ Hid (∀ W, Below w.heap.size w W → Calls Tryd.prog 33 #[.slice a L.length cap, .int .i64 (i + 1), .int .i64 4] W fun e w' => e = .returned (.int .i64 x) ∧ w' = W) := ⟨_, rfl, num_range _ _ _ (by omega), Lib.hid (fun W hb => (from_any a cap L _ _ W (h.below hb) (by omega) (by omega) (by omega)).mono fun _ _ ⟨e, q⟩ => ⟨e, q.symm⟩)⟩
  obtain ⟨x2, hx2, ⟨r2, s2⟩, F2⟩ : ∃ x : Int, x = num L (i + 2) 3 ∧ (0 ≤ x ∧ x < 3) ∧ Hid (∀ W, Below w.heap.size w W → Calls Tryd.prog 33 #[.slice a L.length cap, .int .i64 (i + 2), .int .i64 3] W fun e w' => e = .returned (.int .i64 x) ∧ w' = W) := ⟨_, rfl, num_range _ _ _ (by omega), Lib.hid (fun W hb => (from_any a cap L _ _ W (h.below hb) (by omega) (by omega) (by omega)).mono fun _ _ ⟨e, q⟩ => ⟨e, q.symm⟩)⟩
  obtain ⟨x3, hx3, ⟨r3, s3⟩, F3⟩ : ∃ x : Int, x = num L (i + 3) 4 ∧ (0 ≤ x ∧ x < 4) ∧ Hid (∀ W, Below w.heap.size w W → Calls Tryd.prog 33 #[.slice a L.length cap, .int .i64 (i + 3), .int .i64 4] W fun e w' => e = .returned (.int .i64 x) ∧ w' = W) := ⟨_, rfl, num_range _ _ _ (by omega), Lib.hid (fun W hb => (from_any a cap L _ _ W (h.below hb) (by omega) (by omega) (by omega)).mono fun _ _ ⟨e, q⟩ => ⟨e, q.symm⟩)⟩
  obtain ⟨x4, hx4, ⟨r4, s4⟩, F4⟩ : ∃ x : Int, x = num L (i + 4) 6 ∧ (0 ≤ x ∧ x < 6) ∧ Hid (∀ W, Below w.heap.size w W → Calls Tryd.prog 33 #[.slice a L.length cap, .int .i64 (i + 4), .int .i64 6] W fun e w' => e = .returned (.int .i64 x) ∧ w' = W) := ⟨_, rfl, num_range _ _ _ (by omega), Lib.hid (fun W hb => (from_any a cap L _ _ W (h.below hb) (by omega) (by omega) (by omega)).mono fun _ _ ⟨e, q⟩ => ⟨e, q.symm⟩)⟩
  obtain ⟨x5, hx5, ⟨r5, s5⟩, F5⟩ : ∃ x : Int, x = num L (i + 5) 3 ∧ (0 ≤ x ∧ x < 3) ∧ Hid (∀ W, Below w.heap.size w W → Calls Tryd.prog 33 #[.slice a L.length cap, .int .i64 (i + 5), .int .i64 3] W fun e w' => e = .returned (.int .i64 x) ∧ w' = W) := ⟨_, rfl, num_range _ _ _ (by omega), Lib.hid (fun W hb => (from_any a cap L _ _ W (h.below hb) (by omega) (by omega) (by omega)).mono fun _ _ ⟨e, q⟩ => ⟨e, q.symm⟩)⟩
  obtain ⟨x6, hx6, ⟨r6, s6⟩, F6⟩ : ∃ x : Int, x = num L (i + 6) 60 ∧ (0 ≤ x ∧ x < 60) ∧ Hid (∀ W, Below w.heap.size w W → Calls Tryd.prog 33 #[.slice a L.length cap, .int .i64 (i + 6), .int .i64 60] W fun e w' => e = .returned (.int .i64 x) ∧ w' = W) := ⟨_, rfl, num_range _ _ _ (by omega), Lib.hid (fun W hb => (from_any a cap L _ _ W (h.below hb) (by omega) (by omega) (by omega)).mono fun _ _ ⟨e, q⟩ => ⟨e, q.symm⟩)⟩
  obtain ⟨xz, hxz, ⟨rz, sz⟩, Fz⟩ : ∃ x : Int, x = num L (i + 5) 9 ∧ (0 ≤ x ∧ x < 9) ∧ Hid (∀ W, Below w.heap.size w W → Calls Tryd.prog 33 #[.slice a L.length cap, .int .i64 (i + 5), .int .i64 9] W fun e w' => e = .returned (.int .i64 x) ∧ w' = W) := ⟨_, rfl, num_range _ _ _ (by omega), Lib.hid (fun W hb => (from_any a cap L _ _ W (h.below hb) (by omega) (by omega) (by omega)).mono fun _ _ ⟨e, q⟩ => ⟨e, q.symm⟩)⟩
  obtain ⟨x7, hx7, ⟨r7, s7⟩, F7⟩ : ∃ x : Int, x = num L (i + 7) 300 ∧ (0 ≤ x ∧ x < 300) ∧ Hid (∀ W, Below w.heap.size w W → Calls Tryd.prog 33 #[.slice a L.length cap, .int .i64 (i + 7), .int .i64 300] W fun e w' => e = .returned (.int .i64 x) ∧ w' = W) := ⟨_, rfl, num_range _ _ _ (by omega), Lib.hid (fun W hb => (from_any a cap L _ _ W (h.below hb) (by omega) (by omega) (by omega)).mono fun _ _ ⟨e, q⟩ => ⟨e, q.symm⟩)⟩
  obtain ⟨v1, hv1, I1⟩ : ∃ v : Nat, v = onTab x1 ∧ Hid (∀ w, Sem.run Tryd.prog (Instr.index 92 (.agg #[F 4617315517961601024, F 4621819117588971520, F 4607182418800017408, F 4602678819172646912]) (.int .i64 x1)) w = .ok (F v) w) := ⟨_, rfl, Lib.hid (fun w => idx4 x1 r1 s1 w)⟩
  obtain ⟨v2, hv2, I2⟩ : ∃ v : Nat, v = facTab x2 ∧ Hid (∀ w, Sem.run Tryd.prog (Instr.index 93 (.agg #[F 4602678819172646912, F 4607182418800017408, F 4598175219545276416]) (.int .i64 x2)) w = .ok (F v) w) := ⟨_, rfl, Lib.hid (fun w => idx3 x2 r2 s2 w)⟩
  obtain ⟨v3, hv3, I3⟩ : ∃ v : Nat, v = mulTab x1 x2 ∧ Hid (∀ t w, (binOp .mul t (F v1) (F v2)).run Tryd.prog w = .ok (.float .f64 v) w) := ⟨_, rfl, Lib.hid (fun t w => by rw [hv1, hv2]; exact mul_ok x1 x2 r1 s1 r2 s2 t w)⟩
  obtain ⟨v4, hv4, I4⟩ : ∃ v : Nat, v = Fl.ofB x3.toNat ∧ Hid (∀ t w, (binOp .quo t (.float .f64 (floatOfInt .f64 x3)) (.float .f64 4621819117588971520)).run Tryd.prog w = .ok (.float .f64 v) w) := ⟨_, rfl, Lib.hid (Secs.quo_at Secs.quo_holds x3 r3 (by omega))⟩
  obtain ⟨v5, hv5, I5⟩ : ∃ v : Nat, v = Fl.ofB x4.toNat ∧ Hid (∀ t w, (binOp .quo t (.float .f64 (floatOfInt .f64 x4)) (.float .f64 4621819117588971520)).run Tryd.prog w = .ok (.float .f64 v) w) := ⟨_, rfl, Lib.hid (Secs.quo_at Secs.quo_holds x4 r4 (by omega))⟩
  have RES : Hid (genDet L i n = ⟨x0, v1, v3, v4, v5, if x5 = 1 then 20 + x6 else 0, if xz = 2 then 60 + x7 else 0⟩) := Lib.hid (by subst hv1 hv3 hv4 hv5 hx0 hx1 hx2 hx3 hx4 hx5 hx6 hxz hx7; rfl)
  generalize genDet L i n = R at RES ⊢
  have i1 := I1.out
  have i2 := I2.out
  have i3 := I3.out
  have i4 := I4.out
  have i5 := I5.out
  clear h hx0 hx1 hx2 hx3 hx4 hx5 hx6 hxz hx7 hv1 hv2 hv3 hv4 hv5
  have hz := (zero_of_info infoDz).1
  have HB : Hid (Below w.heap.size w (w.alloc (.cells #[I 0, F 0, F 0, F 0, F 0, I 0, I 0] 75))) := Lib.hid ((Below.refl _ _).alloc (Nat.le_refl _) _)
  have hg := heap_alloc_new w (.cells #[I 0, F 0, F 0, F 0, F 0, I 0, I 0] 75)
  have hs : (w.alloc (.cells #[I 0, F 0, F 0, F 0, F 0, I 0, I 0] 75)).heap.size = w.heap.size + 1 := by simp
  have HG := Lib.hid hg
  have HS := Lib.hid hs
  clear hg hs
  go_enter Tryd.func34, Tryd.ntmps34
  go_upto_region 1 with fail
  generalize (World.alloc w _) = u at HB HG HS ⊢
  go_wp2_with fail
  refine (F0.out _ HB.out).mono ?_
  rintro e w' ⟨rfl, hq⟩
  subst w'
  go_wp2_with fail
  refine (F1.out _ HB.out).mono ?_
  rintro e w' ⟨rfl, hq⟩
  subst w'
  go_upto_region 2 with (refine Row.wpList_store_new rfl 75 _ _ rfl u _ #[I x0, F v1, F 0, F 0, F 0, I 0, I 0] rfl rfl rfl infoD rfl (by simp [Value.oneCell']) ?_)
  (try dsimp only [Act.put])
  have hb := HB.out.alloc HB.out.size (.cells #[I x0, F v1, F 0, F 0, F 0, I 0, I 0] 75)
  have g5 := heap_alloc_new u (.cells #[I x0, F v1, F 0, F 0, F 0, I 0, I 0] 75)
  have g4 := (Below.heap_alloc u (.cells #[I x0, F v1, F 0, F 0, F 0, I 0, I 0] 75) w.heap.size (by have := HS.out; omega)).trans HG.out
  have b5lt : w.heap.size < u.heap.size := by have := HS.out; omega
  clear HB HG HS
  generalize World.alloc u _ = u0 at g4 g5 hb ⊢
  generalize u.heap.size = b5 at g5 b5lt ⊢
  have G4 := Lib.hid g4
  have G5 := Lib.hid g5
  have HB := Lib.hid hb
  clear g4 g5 hb
  have e0 : IntKind.i64.wrap (i + 2) = i + 2 := by rw [IntKind.wrap_i64]; omega
  have g4 : u0.drew.heap[w.heap.size]? = some (.cells #[I 0, F 0, F 0, F 0, F 0, I 0, I 0] 75 (0, 0)) := G4.out
  have g5 : u0.drew.heap[b5]? = some (.cells #[I x0, F v1, F 0, F 0, F 0, I 0, I 0] 75 (0, 0)) := G5.out
  have hb : Below w.heap.size w u0.drew := HB.out.drew
  clear G4 G5 HB
  refine QB.region_tail 10 (by kernel_rfl) (by kernel_rfl) ?_
  generalize World.drew u0 = u1 at g4 g5 hb ⊢
  have G4 := Lib.hid g4
  have G5 := Lib.hid g5
  have HB := Lib.hid hb
  clear g4 g5 hb
  have c1 : u1.cell? ⟨b5, 1, none⟩ = some (F v1) := by rw [cell_of_row _ _ _ _ _ _ G5.out]; rfl
  have c2 : u1.cell? ⟨b5, 2, none⟩ = some (F 0) := by rw [cell_of_row _ _ _ _ _ _ G5.out]; rfl
  have f2 : u1.frozen? ⟨b5, 2, none⟩ = false := frozen_of_row _ _ _ _ _ G5.out
  have st : Sem.run Tryd.prog (store ⟨b5, 2, none⟩ (.float .f64 v3)) u1 = .ok () (u1.setCell ⟨b5, 2, none⟩ (.float .f64 v3)) := run_store_float c2 f2
  simp only [List.take_succ_cons, List.take_zero, List.drop_succ_cons, List.drop_zero]
  repeat still_step
  still_call (F2.out _ HB.out)
  repeat still_step
  refine wpStill_nil ?_
  go_upto_region 3 with fail
  clear e0
  have g5 := heap_setCell_same u1 b5 2 _ _ (.float .f64 v3) G5.out
  simp only [List.setIfInBounds_toArray, List.set_cons_succ, List.set_cons_zero] at g5
  have g4 := (Below.heap_setCell u1 ⟨b5, 2, none⟩ (.float .f64 v3) w.heap.size (by simp; omega)).trans G4.out
  have hb := Owned.below_write HB.out (g := b5) (i := 2) (by omega) (.float .f64 v3)
  clear st c1 c2 f2 G4 G5 HB
  generalize World.setCell u1 ⟨b5, 2, none⟩ (.float .f64 v3) = u2 at g4 g5 hb ⊢
  have G4 := Lib.hid g4
  have G5 := Lib.hid g5
  have HB := Lib.hid hb
  clear g4 g5 hb
  have c3 : u2.cell? ⟨b5, 3, none⟩ = some (F 0) := by rw [cell_of_row _ _ _ _ _ _ G5.out]; rfl
  have f3 : u2.frozen? ⟨b5, 3, none⟩ = false := frozen_of_row _ _ _ _ _ G5.out
  have st : Sem.run Tryd.prog (store ⟨b5, 3, none⟩ (.float .f64 v4)) u2 = .ok () (u2.setCell ⟨b5, 3, none⟩ (.float .f64 v4)) := run_store_float c3 f3
  go_wp2_with fail
  refine (F3.out _ HB.out).mono ?_
  rintro e w' ⟨rfl, hq⟩
  subst w'
  go_upto_region 4 with fail
  have g5 := heap_setCell_same u2 b5 3 _ _ (.float .f64 v4) G5.out
  simp only [List.setIfInBounds_toArray, List.set_cons_succ, List.set_cons_zero] at g5
  have g4 := (Below.heap_setCell u2 ⟨b5, 3, none⟩ (.float .f64 v4) w.heap.size (by simp; omega)).trans G4.out
  have hb := Owned.below_write HB.out (g := b5) (i := 3) (by omega) (.float .f64 v4)
  clear st c3 f3 G4 G5 HB
  generalize World.setCell u2 ⟨b5, 3, none⟩ (.float .f64 v4) = u3 at g4 g5 hb ⊢
  have G4 := Lib.hid g4
  have G5 := Lib.hid g5
  have HB := Lib.hid hb
  clear g4 g5 hb
  have c4 : u3.cell? ⟨b5, 4, none⟩ = some (F 0) := by rw [cell_of_row _ _ _ _ _ _ G5.out]; rfl
  have f4 : u3.frozen? ⟨b5, 4, none⟩ = false := frozen_of_row _ _ _ _ _ G5.out
  have st : Sem.run Tryd.prog (store ⟨b5, 4, none⟩ (.float .f64 v5)) u3 = .ok () (u3.setCell ⟨b5, 4, none⟩ (.float .f64 v5)) := run_store_float c4 f4
  go_wp2_with fail
  refine (F4.out _ HB.out).mono ?_
  rintro e w' ⟨rfl, hq⟩
  subst w'
  go_upto_region 5 with fail
  have g5 := heap_setCell_same u3 b5 4 _ _ (.float .f64 v5) G5.out
  simp only [List.setIfInBounds_toArray, List.set_cons_succ, List.set_cons_zero] at g5
  have g4 := (Below.heap_setCell u3 ⟨b5, 4, none⟩ (.float .f64 v5) w.heap.size (by simp; omega)).trans G4.out
  have hb := Owned.below_write HB.out (g := b5) (i := 4) (by omega) (.float .f64 v5)
  clear st c4 f4 G4 G5 HB
  generalize World.setCell u3 ⟨b5, 4, none⟩ (.float .f64 v5) = u4 at g4 g5 hb ⊢
  have G4 := Lib.hid g4
  have G5 := Lib.hid g5
  have HB := Lib.hid hb
  clear g4 g5 hb
  go_wp2_with fail
  refine (F5.out _ HB.out).mono ?_
  rintro e w' ⟨rfl, hq⟩
  subst w'
  by_cases h5 : x5 = 1
  · have H5 := Lib.hid h5
    have e5 : (x5 == 1) = true := by simpa using h5
    clear h5
    go_upto_region 6 with fail
    have c5 : u4.cell? ⟨b5, 5, none⟩ = some (I 0) := by rw [cell_of_row _ _ _ _ _ _ G5.out]; rfl
    have f5 : u4.frozen? ⟨b5, 5, none⟩ = false := frozen_of_row _ _ _ _ _ G5.out
    go_wp2_with fail
    refine (F6.out _ HB.out).mono ?_
    rintro e w' ⟨rfl, hq⟩
    subst w'
    go_upto_region 7 with fail
    have g5 := heap_setCell_same u4 b5 5 _ _ (I (20 + x6)) G5.out
    simp only [List.setIfInBounds_toArray, List.set_cons_succ, List.set_cons_zero] at g5
    have g4 := (Below.heap_setCell u4 ⟨b5, 5, none⟩ (I (20 + x6)) w.heap.size (by simp; omega)).trans G4.out
    have hb := Owned.below_write HB.out (g := b5) (i := 5) (by omega) (I (20 + x6))
    clear c5 f5 G4 G5 HB
    generalize World.setCell u4 ⟨b5, 5, none⟩ (I (20 + x6)) = u5 at g4 g5 hb ⊢
    have G4 := Lib.hid g4
    have G5 := Lib.hid g5
    have HB := Lib.hid hb
    clear g4 g5 hb
    go_wp2_with fail
    refine (Fz.out _ HB.out).mono ?_
    rintro e w' ⟨rfl, hq⟩
    subst w'
    by_cases hz : xz = 2
    · have HZ := Lib.hid hz
      have ez : (xz == 2) = true := by simpa using hz
      clear hz
      go_upto_region 8 with fail
      have c6 : u5.cell? ⟨b5, 6, none⟩ = some (I 0) := by rw [cell_of_row _ _ _ _ _ _ G5.out]; rfl
      have f6 : u5.frozen? ⟨b5, 6, none⟩ = false := frozen_of_row _ _ _ _ _ G5.out
      go_wp2_with fail
      refine (F7.out _ HB.out).mono ?_
      rintro e w' ⟨rfl, hq⟩
      subst w'
      go_upto_region 9 with fail
      have g5 := heap_setCell_same u5 b5 6 _ _ (I (60 + x7)) G5.out
      simp only [List.setIfInBounds_toArray, List.set_cons_succ, List.set_cons_zero] at g5
      have g4 := (Below.heap_setCell u5 ⟨b5, 6, none⟩ (I (60 + x7)) w.heap.size (by simp; omega)).trans G4.out
      have hb := Owned.below_write HB.out (g := b5) (i := 6) (by omega) (I (60 + x7))
      clear c6 f6 G4 G5 HB
      generalize World.setCell u5 ⟨b5, 6, none⟩ (I (60 + x7)) = u6 at g4 g5 hb ⊢
      have G4 := Lib.hid g4
      have G5 := Lib.hid g5
      have HB := Lib.hid hb
      clear g4 g5 hb
      have FIN : Hid (R.cells.toArray = #[I x0, F v1, .float .f64 v3, .float .f64 v4, .float .f64 v5, I (20 + x6), I (60 + x7)]) := Lib.hid (by rw [RES.out]; simp only [Det.cells, if_pos H5.out, if_pos HZ.out])
      have LV : Hid (Lies u6 ⟨b5, 0, none⟩ #[I x0, F v1, .float .f64 v3, .float .f64 v4, .float .f64 v5, I (20 + x6), I (60 + x7)].toList) := Lib.hid (Row.lies_of_block G5.out)
      have HG := Lib.hid (below_setRow HB.out (g := w.heap.size) (Nat.le_refl _) #[I x0, F v1, .float .f64 v3, .float .f64 v4, .float .f64 v5, I (20 + x6), I (60 + x7)])
      have HK := Lib.hid (setRow_heap u6 w.heap.size _ #[I x0, F v1, .float .f64 v3, .float .f64 v4, .float .f64 v5, I (20 + x6), I (60 + x7)] _ _ G4.out)
      go_wp2_with (first | (refine Row.wpList_load_g 75 _ rfl (by first | rfl | go_simp) ⟨b5, 0, none⟩ rfl #[I x0, F v1, .float .f64 v3, .float .f64 v4, .float .f64 v5, I (20 + x6), I (60 + x7)].toList _ LV.out Tryd.underlying75 rfl infoD ?_) | (refine wpList_store_row rfl 75 _ _ rfl w.heap.size #[I x0, F v1, .float .f64 v3, .float .f64 v4, .float .f64 v5, I (20 + x6), I (60 + x7)] rfl rfl 75 _ G4.out infoD rfl (by simp [Value.oneCell']) ?_))
      generalize u6.setRow w.heap.size #[I x0, F v1, .float .f64 v3, .float .f64 v4, .float .f64 v5, I (20 + x6), I (60 + x7)] = uz at HG HK ⊢
      go_wp2_with fail
      (try simp only [Exit.inBlock, Exit.then])
      refine bodyPost_ret (v := .agg #[I x0, F v1, .float .f64 v3, .float .f64 v4, .float .f64 v5, I (20 + x6), I (60 + x7)]) ?_ rfl ⟨by rw [FIN.out], HG.out⟩
      exact results_cell_row rfl _ _ w.heap.size 75 _ (0, 0) _ rfl HK.out Tryd.underlying75 rfl infoD
    · have HZ := Lib.hid hz
      have ez : (xz == 2) = false := by simpa using hz
      clear hz
      go_upto_region 9 with fail
      have FIN : Hid (R.cells.toArray = #[I x0, F v1, .float .f64 v3, .float .f64 v4, .float .f64 v5, I (20 + x6), I 0]) := Lib.hid (by rw [RES.out]; simp only [Det.cells, if_pos H5.out, if_neg HZ.out])
      have LV : Hid (Lies u5 ⟨b5, 0, none⟩ #[I x0, F v1, .float .f64 v3, .float .f64 v4, .float .f64 v5, I (20 + x6), I 0].toList) := Lib.hid (Row.lies_of_block G5.out)
      have HG := Lib.hid (below_setRow HB.out (g := w.heap.size) (Nat.le_refl _) #[I x0, F v1, .float .f64 v3, .float .f64 v4, .float .f64 v5, I (20 + x6), I 0])
      have HK := Lib.hid (setRow_heap u5 w.heap.size _ #[I x0, F v1, .float .f64 v3, .float .f64 v4, .float .f64 v5, I (20 + x6), I 0] _ _ G4.out)
      go_wp2_with (first | (refine Row.wpList_load_g 75 _ rfl (by first | rfl | go_simp) ⟨b5, 0, none⟩ rfl #[I x0, F v1, .float .f64 v3, .float .f64 v4, .float .f64 v5, I (20 + x6), I 0].toList _ LV.out Tryd.underlying75 rfl infoD ?_) | (refine wpList_store_row rfl 75 _ _ rfl w.heap.size #[I x0, F v1, .float .f64 v3, .float .f64 v4, .float .f64 v5, I (20 + x6), I 0] rfl rfl 75 _ G4.out infoD rfl (by simp [Value.oneCell']) ?_))
      generalize u5.setRow w.heap.size #[I x0, F v1, .float .f64 v3, .float .f64 v4, .float .f64 v5, I (20 + x6), I 0] = uz at HG HK ⊢
      go_wp2_with fail
      (try simp only [Exit.inBlock, Exit.then])
      refine bodyPost_ret (v := .agg #[I x0, F v1, .float .f64 v3, .float .f64 v4, .float .f64 v5, I (20 + x6), I 0]) ?_ rfl ⟨by rw [FIN.out], HG.out⟩
      exact results_cell_row rfl _ _ w.heap.size 75 _ (0, 0) _ rfl HK.out Tryd.underlying75 rfl infoD
  · have H5 := Lib.hid h5
    have e5 : (x5 == 1) = false := by simpa using h5
    clear h5
    go_upto_region 7 with fail
    go_wp2_with fail
    refine (Fz.out _ HB.out).mono ?_
    rintro e w' ⟨rfl, hq⟩
    subst w'
    by_cases hz : xz = 2
    · have HZ := Lib.hid hz
      have ez : (xz == 2) = true := by simpa using hz
      clear hz
      go_upto_region 8 with fail
      have c6 : u4.cell? ⟨b5, 6, none⟩ = some (I 0) := by rw [cell_of_row _ _ _ _ _ _ G5.out]; rfl
      have f6 : u4.frozen? ⟨b5, 6, none⟩ = false := frozen_of_row _ _ _ _ _ G5.out
      go_wp2_with fail
      refine (F7.out _ HB.out).mono ?_
      rintro e w' ⟨rfl, hq⟩
      subst w'
      go_upto_region 9 with fail
      have g5 := heap_setCell_same u4 b5 6 _ _ (I (60 + x7)) G5.out
      simp only [List.setIfInBounds_toArray, List.set_cons_succ, List.set_cons_zero] at g5
      have g4 := (Below.heap_setCell u4 ⟨b5, 6, none⟩ (I (60 + x7)) w.heap.size (by simp; omega)).trans G4.out
      have hb := Owned.below_write HB.out (g := b5) (i := 6) (by omega) (I (60 + x7))
      clear c6 f6 G4 G5 HB
      generalize World.setCell u4 ⟨b5, 6, none⟩ (I (60 + x7)) = u5 at g4 g5 hb ⊢
      have G4 := Lib.hid g4
      have G5 := Lib.hid g5
      have HB := Lib.hid hb
      clear g4 g5 hb
      have FIN : Hid (R.cells.toArray = #[I x0, F v1, .float .f64 v3, .float .f64 v4, .float .f64 v5, I 0, I (60 + x7)]) := Lib.hid (by rw [RES.out]; simp only [Det.cells, if_neg H5.out, if_pos HZ.out])
      have LV : Hid (Lies u5 ⟨b5, 0, none⟩ #[I x0, F v1, .float .f64 v3, .float .f64 v4, .float .f64 v5, I 0, I (60 + x7)].toList) := Lib.hid (Row.lies_of_block G5.out)
      have HG := Lib.hid (below_setRow HB.out (g := w.heap.size) (Nat.le_refl _) #[I x0, F v1, .float .f64 v3, .float .f64 v4, .float .f64 v5, I 0, I (60 + x7)])
      have HK := Lib.hid (setRow_heap u5 w.heap.size _ #[I x0, F v1, .float .f64 v3, .float .f64 v4, .float .f64 v5, I 0, I (60 + x7)] _ _ G4.out)
      go_wp2_with (first | (refine Row.wpList_load_g 75 _ rfl (by first | rfl | go_simp) ⟨b5, 0, none⟩ rfl #[I x0, F v1, .float .f64 v3, .float .f64 v4, .float .f64 v5, I 0, I (60 + x7)].toList _ LV.out Tryd.underlying75 rfl infoD ?_) | (refine wpList_store_row rfl 75 _ _ rfl w.heap.size #[I x0, F v1, .float .f64 v3, .float .f64 v4, .float .f64 v5, I 0, I (60 + x7)] rfl rfl 75 _ G4.out infoD rfl (by simp [Value.oneCell']) ?_))
      generalize u5.setRow w.heap.size #[I x0, F v1, .float .f64 v3, .float .f64 v4, .float .f64 v5, I 0, I (60 + x7)] = uz at HG HK ⊢
      go_wp2_with fail
      (try simp only [Exit.inBlock, Exit.then])
      refine bodyPost_ret (v := .agg #[I x0, F v1, .float .f64 v3, .float .f64 v4, .float .f64 v5, I 0, I (60 + x7)]) ?_ rfl ⟨by rw [FIN.out], HG.out⟩
      exact results_cell_row rfl _ _ w.heap.size 75 _ (0, 0) _ rfl HK.out Tryd.underlying75 rfl infoD
    · have HZ := Lib.hid hz
      have ez : (xz == 2) = false := by simpa using hz
      clear hz
      go_upto_region 9 with fail
      have FIN : Hid (R.cells.toArray = #[I x0, F v1, .float .f64 v3, .float .f64 v4, .float .f64 v5, I 0, I 0]) := Lib.hid (by rw [RES.out]; simp only [Det.cells, if_neg H5.out, if_neg HZ.out])
      have LV : Hid (Lies u4 ⟨b5, 0, none⟩ #[I x0, F v1, .float .f64 v3, .float .f64 v4, .float .f64 v5, I 0, I 0].toList) := Lib.hid (Row.lies_of_block G5.out)
      have HG := Lib.hid (below_setRow HB.out (g := w.heap.size) (Nat.le_refl _) #[I x0, F v1, .float .f64 v3, .float .f64 v4, .float .f64 v5, I 0, I 0])
      have HK := Lib.hid (setRow_heap u4 w.heap.size _ #[I x0, F v1, .float .f64 v3, .float .f64 v4, .float .f64 v5, I 0, I 0] _ _ G4.out)
      go_wp2_with (first | (refine Row.wpList_load_g 75 _ rfl (by first | rfl | go_simp) ⟨b5, 0, none⟩ rfl #[I x0, F v1, .float .f64 v3, .float .f64 v4, .float .f64 v5, I 0, I 0].toList _ LV.out Tryd.underlying75 rfl infoD ?_) | (refine wpList_store_row rfl 75 _ _ rfl w.heap.size #[I x0, F v1, .float .f64 v3, .float .f64 v4, .float .f64 v5, I 0, I 0] rfl rfl 75 _ G4.out infoD rfl (by simp [Value.oneCell']) ?_))
      generalize u4.setRow w.heap.size #[I x0, F v1, .float .f64 v3, .float .f64 v4, .float .f64 v5, I 0, I 0] = uz at HG HK ⊢
      go_wp2_with fail
      (try simp only [Exit.inBlock, Exit.then])
      refine bodyPost_ret (v := .agg #[I x0, F v1, .float .f64 v3, .float .f64 v4, .float .f64 v5, I 0, I 0]) ?_ rfl ⟨by rw [FIN.out], HG.out⟩
      exact results_cell_row rfl _ _ w.heap.size 75 _ (0, 0) _ rfl HK.out Tryd.underlying75 rfl infoD
end GenD
namespace Spots
open Go.ChangeShapes Go.WideShapes Go.ChangeAt Go.RowKit
open Tab Clone PlaceM Gath
open May (ret_bool chain infoP infoG infoD infoR infoB infoT St)
theorem info4 : (Tryd.prog.info? 88).map (fun i => (i.zero, i.size, i.bytes)) = some (some (.agg #[I 0, I 0, I 0, I 0]), 4, 32) := by kernel_rfl
abbrev OwnsS (B : Nat) (w : World) (v : Value) (l : List Spt) : Prop := Owns Spt.cells 4 B w 88 v l
/-- The block under a slice is one of places. -/
def Typed (w : World) (s : Sl) : Prop := ∀ x, s.a = some x → ∃ cs : Array Value, w.heap[x.block]? = some (.cells cs 88 (0, 0))
theorem Typed.below {w w' : World} {s : Sl} (h : Typed w s) (hb : Below w.heap.size w w') : Typed w' s := fun x hx => by
  obtain ⟨cs, hc⟩ := h x hx
  exact ⟨cs, (hb.block _ (Array.getElem?_eq_some_iff.1 hc).1).trans hc⟩
theorem own_row_t {B : Nat} {w : World} {v : Value} {l : List Spt} (h : OwnsS B w v l) : ∃ s : Sl, v = s.val l.length ∧ RowOf 4 Spt.cells w s l ∧ Typed w s := by
  obtain ⟨s, hs, hr⟩ := Owns.row h (enc := Spt.cells) (fun _ => rfl)
  refine ⟨s, hs, hr, fun x hx => ?_⟩
  rcases h.2 with ⟨e, _⟩ | ⟨g, cap, cur, e, h1, h2, _⟩
  · rw [hs] at e
    simp [Sl.val, hx] at e
  · rw [hs] at e
    simp [Sl.val, hx] at e
    obtain ⟨rfl, _⟩ := e
    exact ⟨cur, h2⟩
theorem spots_typed (T : Tab) (h : Hd) (w : World) (ht : IsTab w h T) (sm : Few T) :
    Calls Tryd.prog 54 #[.agg (T.cells h).toArray] w fun e w' => ∃ s : Sl, e = .returned (s.val (spots T).length) ∧ RowOf 4 Spt.cells w' s (spots T) ∧ Typed w' s ∧ Below w.heap.size w w' := by
  have C := Lib.hid (cells_ok ht)
  generalize (T.cells h).toArray = cs at C ⊢
  obtain ⟨gs, hgd, hgr⟩ := ht.groups
  have Hgr := Lib.hid hgr
  have Hgd := Lib.hid hgd
  have SM := Lib.hid sm
  have hsz := C.out.size
  have S0 := Lib.hid (St.box (cs := cs) ht)
  have HZ : Hid ((w.alloc (.cells cs 31)).heap.size = w.heap.size + 1) := Lib.hid (by simp)
  have Hgl := Lib.hid (show T.groups.length = gs.length by rw [← hgd, List.length_map])
  have Kg := hgr.1.len
  unfold maxLen at Kg
  obtain ⟨i0, hi, hz0, hz1, hz2⟩ := info_parts info4
  have LEN : Hid (∀ n, (allS 0 (T.groups.take n)).length ≤ 2000000) := Lib.hid (fun n => small_len (by have := sm.groups; rw [List.length_take]; omega) (fun x hx => sm.rows x (List.mem_of_mem_take hx)))
  clear ht hgr hgd sm
  go_enter Tryd.func54, Tryd.ntmps54
  go_upto_region 1 with fail
  generalize w.alloc (.cells cs 31) = w1 at S0 HZ ⊢
  clear hsz
  have q104 := S0.out.cell C.out.g
  rw [Hgl.out] at q104
  have Q104 := Lib.hid q104
  clear q104
  have LIFT : Hid (∀ W, Below w1.heap.size w1 W → ∀ (z : Addr) (c : Value), w1.cell? z = some c → W.cell? z = some c) := Lib.hid (fun W hb z c hc => (hb.cell (World.block_lt_of_cell? w1 _ hc)).trans hc)
  go_wp2_with fail
  go_loopw [3, 4] (fun v g wr => ∃ q : Nat, q ≤ gs.length ∧ g = .int .i64 q ∧ OwnsS w1.heap.size wr v (allS 0 (T.groups.take q)) ∧ Below w1.heap.size w1 wr) (fun _ g _ => gs.length - (intOf g).toNat)
  case atStart => exact ⟨0, by omega, rfl, Owns.nil, Below.refl _ _⟩
  case round =>
    obtain ⟨q, hq, rfl, hown, hbel⟩ := hrel
    have HO := Lib.hid hown
    have HB := Lib.hid hbel
    clear hown hbel
    have p104 := LIFT.out _ HB.out _ _ Q104.out
    by_cases hlt : q < gs.length
    · have hv := List.getElem?_eq_getElem hlt
      generalize gs[q] = u at hv
      obtain ⟨x, hx, hc⟩ := (Hgr.out.1.below S0.out.bel).at hv
      have hok := (Hgr.out.2 u (List.mem_of_getElem? hv)).below S0.out.bel
      have HD : Hid (T.groups[q]? = some u.data) := Lib.hid (by rw [← Hgd.out, List.getElem?_map, hv]; rfl)
      have hsm := SM.out.rows u.data (by rw [← Hgd.out]; exact List.mem_map.2 ⟨u, List.mem_of_getElem? hv, rfl⟩)
      obtain ⟨l0, l1, ⟨a0, cap0⟩, ⟨a1, cap1⟩⟩ := u
      have hl0 : l0.length ≤ 1000 := hsm.1
      have hl1 : l1.length ≤ 1000 := hsm.2
      have K0 := hok.1.len
      have K1 := hok.2.len
      unfold maxLen at K0 K1
      have H0 := Lib.hid hok.1
      have H1 := Lib.hid hok.2
      have QQ : Hid (w1.cell? ⟨w.heap.size, 104, none⟩ = some (.slice (some x) gs.length h.g.cap)) := by have := Q104.out; simp only [Sl.val, hx] at this; exact this
      have c0 := hc 0 _ rfl
      have c1 := hc 1 _ rfl
      rw [add_zero] at c0
      rw [add_one] at c1
      have HC0 := Lib.hid c0
      have HC1 := Lib.hid c1
      clear hv hc hok hx c0 c1 hsm
      go_wp2_with fail
      clear p104
      go_loopw [3, 5] (fun v k wk => ∃ r : Nat, r ≤ 2 ∧ k = .int .i64 r ∧ OwnsS w1.heap.size wk v (allS 0 (T.groups.take q) ++ ((if 0 < r then rowS q 0 0 l0 else []) ++ (if 1 < r then rowS q 1 0 l1 else []))) ∧ Below w1.heap.size w1 wk) (fun _ k _ => 2 - (intOf k).toNat)
      case atStart => exact ⟨0, by omega, rfl, by simpa using HO.out, HB.out⟩
      case round =>
        obtain ⟨r, hr, rfl, hown, hbel⟩ := hrel
        have HOr := Lib.hid hown
        have HBr := Lib.hid hbel
        clear hown hbel
        have hr2 : r = 0 ∨ r = 1 ∨ r = 2 := by omega
        rcases hr2 with rfl | rfl | rfl
        · rw [show ((0 : Nat) : Int) = (0 : Int) from rfl]
          have HO1 : Hid (OwnsS w1.heap.size wr u3 (allS 0 (T.groups.take q))) := Lib.hid (by simpa using HOr.out)
          clear HOr
          have LN : Hid ((allS 0 (T.groups.take q)).length ≤ 2002000) := Lib.hid (by have := LEN.out q; have h2 := rowS_len q 0 0 l0; (try rw [List.length_append]); omega)
          go_wp2_with fail
          go_loopw [3, 6] (fun v i wj => ∃ j : Nat, j ≤ l0.length ∧ i = .int .i64 j ∧ OwnsS w1.heap.size wj v (allS 0 (T.groups.take q) ++ rowS q 0 0 (l0.take j)) ∧ Below w1.heap.size w1 wj) (fun _ i _ => l0.length - (intOf i).toNat)
          case atStart => exact ⟨0, by omega, rfl, by simpa [rowS] using HO1.out, HBr.out⟩
          case round =>
            obtain ⟨j, hj, rfl, hown, hbel⟩ := hrel
            have HOj := Lib.hid hown
            have HBj := Lib.hid hbel
            clear hown hbel
            have p104 := LIFT.out _ HBj.out _ _ QQ.out
            by_cases hjl : j < l0.length
            · have hv := List.getElem?_eq_getElem hjl
              generalize l0[j] = p at hv
              obtain ⟨y, hy, hp⟩ := IntRow.at (H0.out.below HBj.out) hv
              obtain rfl : a0 = some y := hy
              have p0 : wr.cell? _ = some (.slice (some y) l0.length cap0) := LIFT.out _ HBj.out _ _ HC0.out
              have HV := Lib.hid hv
              clear hv
              have hsz := HBj.out.size
              by_cases hp8 : 0 ≤ p ∧ p < 8
              · obtain ⟨hp0, hp1⟩ := hp8
                have HS : Hid (allS 0 (T.groups.take q) ++ rowS q 0 0 (l0.take (j + 1)) = (allS 0 (T.groups.take q) ++ rowS q 0 0 (l0.take j)) ++ [⟨q, 0, j, p⟩]) := Lib.hid (by rw [row_hit HV.out hp0 hp1, ← List.append_assoc])
                have hlen : (allS 0 (T.groups.take q) ++ rowS q 0 0 (l0.take j)).length ≤ 2003000 := by have := LN.out; have h2 := rowS_len q 0 0 (l0.take j); rw [List.length_append]; rw [List.length_take] at h2; omega
                have hown := HOj.out
                generalize allS 0 (T.groups.take q) ++ rowS q 0 0 (l0.take j) = P1 at hown hlen HS
                have hown2 : wr.ownsRow w1.heap.size 88 4 u3 P1.length (P1.flatMap Spt.cells) := hown
                clear hown HOj
                go_wp2_with (at_builtin; refine wpList_append_own _ rfl _ _ 102 rfl w1.heap.size 88 i0 (.agg #[I 0, I 0, I 0, I 0]) 4 32 Tryd.underlying102 hi hz0 hz1 hz2 rfl (by decide) _ _ _ rfl (hown2.alloc _) ⟨wr.heap.size, 0, none⟩ 1 1 (Spt.cells ⟨q, 0, j, p⟩) rfl rfl ?c1 ?c2 ?c3 ?c4 ?c5 ?_)
                case c1 =>
                  intro m u hm
                  match m, hm with
                  | 0, hm | 1, hm | 2, hm | 3, hm => simp [Spt.cells] at hm; subst hm; simp [Addr.add]
                case c2 => intro u hu; simp [Spt.cells] at hu; rcases hu with rfl | rfl | rfl | rfl <;> rfl
                case c3 => unfold maxLen; omega
                case c4 => omega
                case c5 => simp; omega
                intro v' w2 hown' hgrow hnil'
                have HB2 : Hid (Below w1.heap.size w1 w2) := Lib.hid ((HBj.out.alloc hsz _).grown hgrow (by simp; omega) fun m hm => (show OwnsS w1.heap.size wr u3 P1 from hown2).blk m hm)
                have HO2 : Hid (OwnsS w1.heap.size w2 v' (P1 ++ [⟨q, 0, j, p⟩])) := Lib.hid (Owns.snoc hown')
                clear hown' hgrow hown2 hnil'
                go_wp2
                go_roundw
                case rel => exact ⟨j + 1, by omega, by go_num, by rw [HS.out]; exact HO2.out, HB2.out⟩
                case measure => simp [intOf]; omega
              · have HS : Hid (allS 0 (T.groups.take q) ++ rowS q 0 0 (l0.take (j + 1)) = allS 0 (T.groups.take q) ++ rowS q 0 0 (l0.take j)) := Lib.hid (by rw [row_miss HV.out hp8])
                by_cases hp0 : 0 ≤ p
                · have hp1 : ¬ p < 8 := fun h => hp8 ⟨hp0, h⟩
                  clear hp8
                  go_wp2
                  go_roundw
                  case rel => exact ⟨j + 1, by omega, by go_num, by rw [HS.out]; exact HOj.out, HBj.out⟩
                  case measure => simp [intOf]; omega
                · clear hp8
                  go_wp2
                  go_roundw
                  case rel => exact ⟨j + 1, by omega, by go_num, by rw [HS.out]; exact HOj.out, HBj.out⟩
                  case measure => simp [intOf]; omega
            · have p0 : wr.cell? _ = some (.slice a0 l0.length cap0) := LIFT.out _ HBj.out _ _ HC0.out
              have HE : Hid (rowS q 0 0 (l0.take j) = rowS q 0 0 l0) := Lib.hid (by rw [List.take_of_length_le (by omega)])
              go_wp2
              go_roundw
              case rel => exact ⟨0 + 1, by omega, by go_num, by have := HOj.out; rw [HE.out] at this; simpa using this, HBj.out⟩
              case measure => simp [intOf]
        · rw [show ((1 : Nat) : Int) = (1 : Int) from rfl]
          have HO1 : Hid (OwnsS w1.heap.size wr u3 (allS 0 (T.groups.take q) ++ rowS q 0 0 l0)) := Lib.hid (by simpa using HOr.out)
          clear HOr
          have LN : Hid ((allS 0 (T.groups.take q) ++ rowS q 0 0 l0).length ≤ 2002000) := Lib.hid (by have := LEN.out q; have h2 := rowS_len q 0 0 l0; (try rw [List.length_append]); omega)
          go_wp2_with fail
          go_loopw [3, 6] (fun v i wj => ∃ j : Nat, j ≤ l1.length ∧ i = .int .i64 j ∧ OwnsS w1.heap.size wj v (allS 0 (T.groups.take q) ++ rowS q 0 0 l0 ++ rowS q 1 0 (l1.take j)) ∧ Below w1.heap.size w1 wj) (fun _ i _ => l1.length - (intOf i).toNat)
          case atStart => exact ⟨0, by omega, rfl, by simpa [rowS] using HO1.out, HBr.out⟩
          case round =>
            obtain ⟨j, hj, rfl, hown, hbel⟩ := hrel
            have HOj := Lib.hid hown
            have HBj := Lib.hid hbel
            clear hown hbel
            have p104 := LIFT.out _ HBj.out _ _ QQ.out
            by_cases hjl : j < l1.length
            · have hv := List.getElem?_eq_getElem hjl
              generalize l1[j] = p at hv
              obtain ⟨y, hy, hp⟩ := IntRow.at (H1.out.below HBj.out) hv
              obtain rfl : a1 = some y := hy
              have p0 : wr.cell? _ = some (.slice (some y) l1.length cap1) := LIFT.out _ HBj.out _ _ HC1.out
              have HV := Lib.hid hv
              clear hv
              have hsz := HBj.out.size
              by_cases hp8 : 0 ≤ p ∧ p < 8
              · obtain ⟨hp0, hp1⟩ := hp8
                have HS : Hid (allS 0 (T.groups.take q) ++ rowS q 0 0 l0 ++ rowS q 1 0 (l1.take (j + 1)) = (allS 0 (T.groups.take q) ++ rowS q 0 0 l0 ++ rowS q 1 0 (l1.take j)) ++ [⟨q, 1, j, p⟩]) := Lib.hid (by rw [row_hit HV.out hp0 hp1, ← List.append_assoc])
                have hlen : (allS 0 (T.groups.take q) ++ rowS q 0 0 l0 ++ rowS q 1 0 (l1.take j)).length ≤ 2003000 := by have := LN.out; have h2 := rowS_len q 1 0 (l1.take j); rw [List.length_append]; rw [List.length_take] at h2; omega
                have hown := HOj.out
                generalize allS 0 (T.groups.take q) ++ rowS q 0 0 l0 ++ rowS q 1 0 (l1.take j) = P1 at hown hlen HS
                have hown2 : wr.ownsRow w1.heap.size 88 4 u3 P1.length (P1.flatMap Spt.cells) := hown
                clear hown HOj
                go_wp2_with (at_builtin; refine wpList_append_own _ rfl _ _ 102 rfl w1.heap.size 88 i0 (.agg #[I 0, I 0, I 0, I 0]) 4 32 Tryd.underlying102 hi hz0 hz1 hz2 rfl (by decide) _ _ _ rfl (hown2.alloc _) ⟨wr.heap.size, 0, none⟩ 1 1 (Spt.cells ⟨q, 1, j, p⟩) rfl rfl ?c1 ?c2 ?c3 ?c4 ?c5 ?_)
                case c1 =>
                  intro m u hm
                  match m, hm with
                  | 0, hm | 1, hm | 2, hm | 3, hm => simp [Spt.cells] at hm; subst hm; simp [Addr.add]
                case c2 => intro u hu; simp [Spt.cells] at hu; rcases hu with rfl | rfl | rfl | rfl <;> rfl
                case c3 => unfold maxLen; omega
                case c4 => omega
                case c5 => simp; omega
                intro v' w2 hown' hgrow hnil'
                have HB2 : Hid (Below w1.heap.size w1 w2) := Lib.hid ((HBj.out.alloc hsz _).grown hgrow (by simp; omega) fun m hm => (show OwnsS w1.heap.size wr u3 P1 from hown2).blk m hm)
                have HO2 : Hid (OwnsS w1.heap.size w2 v' (P1 ++ [⟨q, 1, j, p⟩])) := Lib.hid (Owns.snoc hown')
                clear hown' hgrow hown2 hnil'
                go_wp2
                go_roundw
                case rel => exact ⟨j + 1, by omega, by go_num, by rw [HS.out]; exact HO2.out, HB2.out⟩
                case measure => simp [intOf]; omega
              · have HS : Hid (allS 0 (T.groups.take q) ++ rowS q 0 0 l0 ++ rowS q 1 0 (l1.take (j + 1)) = allS 0 (T.groups.take q) ++ rowS q 0 0 l0 ++ rowS q 1 0 (l1.take j)) := Lib.hid (by rw [row_miss HV.out hp8])
                by_cases hp0 : 0 ≤ p
                · have hp1 : ¬ p < 8 := fun h => hp8 ⟨hp0, h⟩
                  clear hp8
                  go_wp2
                  go_roundw
                  case rel => exact ⟨j + 1, by omega, by go_num, by rw [HS.out]; exact HOj.out, HBj.out⟩
                  case measure => simp [intOf]; omega
                · clear hp8
                  go_wp2
                  go_roundw
                  case rel => exact ⟨j + 1, by omega, by go_num, by rw [HS.out]; exact HOj.out, HBj.out⟩
                  case measure => simp [intOf]; omega
            · have p0 : wr.cell? _ = some (.slice a1 l1.length cap1) := LIFT.out _ HBj.out _ _ HC1.out
              have HE : Hid (rowS q 1 0 (l1.take j) = rowS q 1 0 l1) := Lib.hid (by rw [List.take_of_length_le (by omega)])
              go_wp2
              go_roundw
              case rel => exact ⟨1 + 1, by omega, by go_num, by have := HOj.out; rw [HE.out] at this; simpa using this, HBj.out⟩
              case measure => simp [intOf]
        · have HN : Hid (allS 0 (T.groups.take (q + 1)) = allS 0 (T.groups.take q) ++ (rowS q 0 0 l0 ++ rowS q 1 0 l1)) := Lib.hid (all_step HD.out)
          go_wp2
          go_roundw
          case rel => exact ⟨q + 1, by omega, by go_num, by rw [HN.out]; simpa using HOr.out, HBr.out⟩
          case measure => simp [intOf]; omega
    · have HE : Hid (allS 0 (T.groups.take q) = spots T) := Lib.hid (by rw [List.take_of_length_le (by rw [Hgl.out]; omega)]; rfl)
      obtain ⟨s, hs, hrow, hty⟩ := own_row_t HO.out
      rw [HE.out] at hs hrow
      have HR := Lib.hid hrow
      have HT := Lib.hid hty
      have HF : Hid (Below w.heap.size w wr) := Lib.hid (S0.out.bel.trans (HB.out.mono S0.out.bel.size))
      clear hrow hty HE
      subst hs
      go_wp2
      go_ret
      exact ⟨s, rfl, HR.out, HT.out, HF.out⟩
theorem spots_any (T : Tab) (h : Hd) (w : World) (ht : IsTab w h T) (sm : Few T) :
    Calls Tryd.prog 54 #[.agg (T.cells h).toArray] w fun e w' => ∃ s : Sl, e = .returned (s.val (spots T).length) ∧ RowOf 4 Spt.cells w' s (spots T) ∧ Below w.heap.size w w' := by
  refine (spots_typed T h w ht sm).mono ?_
  rintro e w' ⟨s, h1, h2, _, h3⟩
  exact ⟨s, h1, h2, h3⟩
end Spots
namespace Where
open Go.ChangeShapes Go.WideShapes Go.ChangeAt Go.RowKit
open Tab Clone PlaceM
open May (ret_bool chain infoP infoG infoD infoR infoB infoT St)
open Same (below_setRow)
theorem infoS : (Tryd.prog.info? 88).map (·.size) = some 4 := by kernel_rfl
theorem infoZ : (Tryd.prog.info? 88).map (fun i => (i.zero, i.size)) = some (some (.agg #[I 0, I 0, I 0, I 0]), 4) := by kernel_rfl
theorem results_row_tmp {P : Program} {fn : Func} {p u : Tmp} {ty : TypeId} (h : fn.results = #[.cell p ty, .tmp u]) (tmps : Array Value) (w : World) (g : Nat) (t : TypeId) (cs : Array Value) (fr : Nat × Nat) (d : TypeDesc)
    (hp : tmps.getD p undef = .pointer (some ⟨g, 0, none⟩)) (hg : w.heap[g]? = some (.cells cs t fr))
    (hu : P.underlying ty = some d) (hd : (match d with | .struct _ | .array _ _ => true | _ => false) = true) (hi : (P.info? ty).map (·.size) = some cs.size) :
    (results fn tmps).run P w = .ok (.tuple #[.agg cs, tmps.getD u undef]) w := by
  rw [results_cell_tmp h, hp]
  simp [asAddr, run_loadVar_row w g t ty cs fr d hg hu hd hi]
def oCells : Option Spt → List Value
  | some x => x.cells
  | none => [I 0, I 0, I 0, I 0]
theorem find_some {p : Int} {l : List Spt} {j : Nat} {x : Spt} (h : ∀ y ∈ l.take j, y.p ≠ p) (hx : l[j]? = some x) (hp : x.p = p) : find p l = some x := by
  have hj : j < l.length := (List.getElem?_eq_some_iff.1 hx).1
  have e : l = l.take j ++ x :: l.drop (j + 1) := by
    have h2 : l.drop j = x :: l.drop (j + 1) := by
      rw [List.drop_eq_getElem_cons hj]; congr 1; exact (List.getElem?_eq_some_iff.1 hx).2
    rw [← h2, List.take_append_drop]
  have h1 := find_none h
  unfold find at h1 ⊢
  rw [e, List.find?_append, h1]
  simp [hp]
theorem where_any (T : Tab) (h : Hd) (p : Int) (w : World) (ht : IsTab w h T) (sm : Few T) :
    Calls Tryd.prog 44 #[.agg (T.cells h).toArray, .int .i64 p] w fun e w' => e = .returned (.tuple #[.agg (oCells (where_ T p)).toArray, .bool (where_ T p).isSome]) ∧ Below w.heap.size w w' := by
  have hsz := (cells_ok ht).size
  have IA : Hid ((Tryd.prog.info? 31).map (·.size) = some (T.cells h).length) := Lib.hid (by rw [List.size_toArray] at hsz; rw [hsz]; exact infoT)
  have SPC : Hid (∀ W, Below w.heap.size w W → Calls Tryd.prog 54 #[.agg (T.cells h).toArray] W fun e w' => ∃ s : Sl, e = .returned (s.val (spots T).length) ∧ RowOf 4 Spt.cells w' s (spots T) ∧ Below W.heap.size W w') := Lib.hid (fun W hb => Spots.spots_any T h W (ht.below hb) sm)
  have A0 : Hid (Below w.heap.size w ((w.alloc (.cells (T.cells h).toArray 31)).alloc (.cells #[I 0, I 0, I 0, I 0] 88))) := Lib.hid (((Below.refl _ _).alloc (Nat.le_refl _) _).alloc (by simp) _)
  have A1 : Hid (Lies ((w.alloc (.cells (T.cells h).toArray 31)).alloc (.cells #[I 0, I 0, I 0, I 0] 88)) ⟨w.heap.size, 0, none⟩ (T.cells h)) := Lib.hid (Row.lies_of_block (heap_alloc2_old w _ _))
  have A2 : Hid (((w.alloc (.cells (T.cells h).toArray 31)).alloc (.cells #[I 0, I 0, I 0, I 0] 88)).heap[w.heap.size + 1]? = some (.cells #[I 0, I 0, I 0, I 0] 88 (0, 0))) := Lib.hid (heap_alloc2_new w _ _)
  have hz := (zero_of_info infoZ).1
  have W0 : Hid (where_ T p = find p (spots T)) := Lib.hid rfl
  generalize where_ T p = o at W0 ⊢
  clear ht sm
  generalize T.cells h = c at *
  go_enter Tryd.func44, Tryd.ntmps44
  go_upto_region 1 with fail
  generalize ((w.alloc (.cells c.toArray 31)).alloc (.cells #[I 0, I 0, I 0, I 0] 88)) = u at A0 A1 A2 ⊢
  clear hsz hz
  go_wp2_with (refine Row.wpList_load_g 31 _ rfl (by first | rfl | go_simp) ⟨w.heap.size, 0, none⟩ rfl c _ A1.out Tryd.underlying31 rfl IA.out ?_)
  refine (SPC.out _ A0.out).mono ?_
  rintro e u1 ⟨⟨sa, scap⟩, rfl, hrow, hb⟩
  rw [show (Sl.val ⟨sa, scap⟩ (spots T).length) = .slice sa (spots T).length scap from rfl]
  have B0 : Hid (Below w.heap.size w u1) := Lib.hid (A0.out.trans (hb.mono A0.out.size))
  have B2 : Hid (u1.heap[w.heap.size + 1]? = some (.cells #[I 0, I 0, I 0, I 0] 88 (0, 0))) := Lib.hid ((hb.block _ (Array.getElem?_eq_some_iff.1 A2.out).1).trans A2.out)
  have HR := Lib.hid hrow
  have K := hrow.len
  unfold maxLen at K
  clear hrow hb A0 A1 A2 SPC IA
  generalize spots T = S at HR K W0 ⊢
  go_wp2_with fail
  go_loopw [7] (fun i wr => ∃ j : Nat, j ≤ S.length ∧ i = .int .i64 j ∧ (∀ x ∈ S.take j, x.p ≠ p) ∧ wr = u1) (fun i _ => S.length - (intOf i).toNat)
  case atStart => exact ⟨0, by omega, rfl, (fun x hx => by simp at hx), rfl⟩
  case round =>
    obtain ⟨j, hj, rfl, hall, rfl⟩ := hrel
    have Hall := Lib.hid hall
    clear hall
    by_cases hlt : j < S.length
    · have hv := List.getElem?_eq_getElem hlt
      generalize S[j] = x at hv
      obtain ⟨y, hy, hc⟩ := HR.out.at hv
      obtain rfl : sa = some y := hy
      have HV := Lib.hid hv
      have HC := Lib.hid hc
      have c3 := hc 3 _ rfl
      have c3' : wr.cell? ⟨(y.add (j * 4)).block, (y.add (j * 4)).off + 3, none⟩ = some (I x.p) := by simpa [Addr.add] using c3
      clear hv hc c3
      by_cases hp : x.p = p
      · have HF : Hid (o = some x) := Lib.hid (by rw [W0.out]; exact find_some Hall.out HV.out hp)
        have hb : (x.p == p) = true := by simpa using hp
        have HG := Lib.hid (below_setRow B0.out (g := w.heap.size + 1) (by omega) x.cells.toArray)
        have HK := Lib.hid (setRow_heap wr (w.heap.size + 1) _ x.cells.toArray _ _ B2.out)
        clear hp
        go_wp2_with (first | (refine Row.wpList_load_g 88 _ rfl (by first | rfl | go_simp) (y.add (j * 4)) rfl x.cells _ HC.out Tryd.underlying88 rfl infoS ?_) | (refine wpList_store_row rfl 88 _ _ rfl (w.heap.size + 1) x.cells.toArray rfl rfl 88 _ B2.out infoS rfl (Spt.one _) ?_))
        generalize wr.setRow (w.heap.size + 1) x.cells.toArray = w5 at HG HK ⊢
        go_wp2_with fail
        (try simp only [Exit.inBlock, Exit.then])
        refine bodyPost_ret (v := .tuple #[.agg x.cells.toArray, .bool true]) ?_ rfl ⟨?_, HG.out⟩
        · exact results_row_tmp (fn := Tryd.f44) (p := 4) (u := 5) (ty := 88) rfl _ _ (w.heap.size + 1) 88 _ (0, 0) _ rfl HK.out Tryd.underlying88 rfl infoS
        · rw [HF.out]; rfl
      · have HN : Hid (∀ y ∈ S.take (j + 1), y.p ≠ p) := Lib.hid (by
          intro y hy
          rw [take_succ HV.out] at hy
          rcases List.mem_append.1 hy with hy | hy
          · exact Hall.out y hy
          · obtain rfl : y = x := by simpa using hy
            exact hp)
        have hb : (x.p == p) = false := by simpa using hp
        clear hp
        go_wp2
        go_roundw
        case rel => exact ⟨j + 1, by omega, by go_num, HN.out, trivial⟩
        case measure => simp [intOf]; omega
    · have HF : Hid (o = none) := Lib.hid (by
        rw [W0.out]; refine find_none ?_
        have := Hall.out
        rwa [List.take_of_length_le (by omega)] at this)
      have HG := Lib.hid (below_setRow B0.out (g := w.heap.size + 1) (by omega) #[I 0, I 0, I 0, I 0])
      have HK := Lib.hid (setRow_heap wr (w.heap.size + 1) _ #[I 0, I 0, I 0, I 0] _ _ B2.out)
      go_wp2_with (first | (refine wpList_store_row rfl 88 _ _ rfl (w.heap.size + 1) #[I 0, I 0, I 0, I 0] rfl rfl 88 _ B2.out infoS rfl (by simp [Value.oneCell']) ?_))
      generalize wr.setRow (w.heap.size + 1) #[I 0, I 0, I 0, I 0] = w5 at HG HK ⊢
      go_wp2_with fail
      (try simp only [Exit.inBlock, Exit.then])
      refine bodyPost_ret (v := .tuple #[.agg #[I 0, I 0, I 0, I 0], .bool false]) ?_ rfl ⟨?_, HG.out⟩
      · exact results_row_tmp (fn := Tryd.f44) (p := 4) (u := 5) (ty := 88) rfl _ _ (w.heap.size + 1) 88 _ (0, 0) _ rfl HK.out Tryd.underlying88 rfl infoS
      · rw [HF.out]; rfl
theorem lies4 {w : World} {b : Nat} {g k i p : Int} {t : TypeId} (h : w.heap[b]? = some (.cells #[I g, I k, I i, I p] t (0, 0))) : w.cell? ⟨b, 0, none⟩ = some (I g) ∧ w.cell? ⟨b, 1, none⟩ = some (I k) := ⟨by rw [cell_of_row _ _ _ _ _ _ h]; rfl, by rw [cell_of_row _ _ _ _ _ _ h]; rfl⟩
theorem beside_raw (c : List Value) (p q g1 k1 i1 p1 g2 k2 i2 p2 : Int) (ok1 ok2 : Bool) (w : World) (hc : c.length = 131) (hone : c.toArray.all (·.oneCell') = true)
    (V1 : Hid (∀ W, Below w.heap.size w W → Calls Tryd.prog 44 #[.agg c.toArray, .int .i64 p] W fun e w' => e = .returned (.tuple #[.agg #[I g1, I k1, I i1, I p1], .bool ok1]) ∧ Below W.heap.size W w'))
    (V2 : Hid (∀ W, Below w.heap.size w W → Calls Tryd.prog 44 #[.agg c.toArray, .int .i64 q] W fun e w' => e = .returned (.tuple #[.agg #[I g2, I k2, I i2, I p2], .bool ok2]) ∧ Below W.heap.size W w')) :
    Calls Tryd.prog 32 #[.agg c.toArray, .int .i64 p, .int .i64 q] w fun e w' => e = .returned (.bool (ok1 && ok2 && g1 == g2 && k1 != k2)) ∧ Below w.heap.size w w' := by
  have hsz : c.toArray.size = 131 := by simpa using hc
  have IA : Hid ((Tryd.prog.info? 31).map (·.size) = some c.length) := Lib.hid (by rw [hc]; exact infoT)
  have A0 : Hid (Below w.heap.size w (w.alloc (.cells c.toArray 31))) := Lib.hid ((Below.refl _ _).alloc (Nat.le_refl _) _)
  have A1 : Hid (Lies (w.alloc (.cells c.toArray 31)) ⟨w.heap.size, 0, none⟩ c) := Lib.hid (Row.lies_new w _ _)
  generalize hr : (ok1 && ok2 && g1 == g2 && k1 != k2) = r
  have HR := Lib.hid hr
  clear hr hc hone
  go_enter Tryd.func32, Tryd.ntmps32
  go_upto_region 1 with fail
  generalize w.alloc (.cells c.toArray 31) = u at A0 A1 ⊢
  clear hsz
  go_wp2_with (refine Row.wpList_load_g 31 _ rfl (by first | rfl | go_simp) ⟨w.heap.size, 0, none⟩ rfl c _ A1.out Tryd.underlying31 rfl IA.out ?_)
  refine (V1.out _ A0.out).mono ?_
  rintro e u1 ⟨rfl, hb⟩
  have B0 : Hid (Below w.heap.size w u1) := Lib.hid (A0.out.trans (hb.mono A0.out.size))
  have B1 := Lib.hid (A1.out.below hb)
  clear hb A0 A1 V1
  go_upto_region 2 with (refine Row.wpList_store_new rfl 88 _ _ rfl u1 #[I 0, I 0, I 0, I 0] #[I g1, I k1, I i1, I p1] rfl rfl rfl infoS rfl (by simp [Value.oneCell']) ?_)
  have hb2 : Below u1.heap.size u1 (u1.alloc (.cells #[I g1, I k1, I i1, I p1] 88)) := (Below.refl _ _).alloc (Nat.le_refl _) _
  have hg1 := heap_alloc_new u1 (.cells #[I g1, I k1, I i1, I p1] 88)
  generalize u1.alloc (.cells #[I g1, I k1, I i1, I p1] 88) = u2 at hb2 hg1 ⊢
  generalize u1.heap.size = b1 at hg1 ⊢
  have A0 : Hid (Below w.heap.size w u2) := Lib.hid (B0.out.trans (hb2.mono B0.out.size))
  have A1 := Lib.hid (B1.out.below hb2)
  have G1 := Lib.hid hg1
  clear hb2 hg1 B0 B1
  go_wp2_with (refine Row.wpList_load_g 31 _ rfl (by first | rfl | go_simp) ⟨w.heap.size, 0, none⟩ rfl c _ A1.out Tryd.underlying31 rfl IA.out ?_)
  refine (V2.out _ A0.out).mono ?_
  rintro e u3 ⟨rfl, hb⟩
  have B0 : Hid (Below w.heap.size w u3) := Lib.hid (A0.out.trans (hb.mono A0.out.size))
  have G2 := Lib.hid ((hb.block _ (Array.getElem?_eq_some_iff.1 G1.out).1).trans G1.out)
  clear hb A0 A1 V2 G1
  go_upto_region 3 with (refine Row.wpList_store_new rfl 88 _ _ rfl u3 #[I 0, I 0, I 0, I 0] #[I g2, I k2, I i2, I p2] rfl rfl rfl infoS rfl (by simp [Value.oneCell']) ?_)
  have hb2 : Below u3.heap.size u3 (u3.alloc (.cells #[I g2, I k2, I i2, I p2] 88)) := (Below.refl _ _).alloc (Nat.le_refl _) _
  have hg2 := heap_alloc_new u3 (.cells #[I g2, I k2, I i2, I p2] 88)
  have hg1 := (hb2.block _ (Array.getElem?_eq_some_iff.1 G2.out).1).trans G2.out
  generalize u3.alloc (.cells #[I g2, I k2, I i2, I p2] 88) = u4 at hb2 hg1 hg2 ⊢
  generalize u3.heap.size = b2 at hg2 ⊢
  have HF : Hid (Below w.heap.size w u4) := Lib.hid (B0.out.trans (hb2.mono B0.out.size))
  obtain ⟨q0, q1⟩ := lies4 hg1
  obtain ⟨r0, r1⟩ := lies4 hg2
  clear hb2 hg1 hg2 B0 G2 IA
  cases ok1
  · go_wp2
    go_ret
    exact ⟨ret_bool (by rw [← HR.out]; simp), HF.out⟩
  cases ok2
  · go_wp2
    go_ret
    exact ⟨ret_bool (by rw [← HR.out]; simp), HF.out⟩
  by_cases hg : g1 = g2
  · have e1 : (g1 == g2) = true := by simpa using hg
    have E1 := Lib.hid e1
    clear hg
    go_wp2
    go_ret
    exact ⟨ret_bool (by rw [← HR.out, E1.out]; simp), HF.out⟩
  · have e1 : (g1 == g2) = false := by simpa using hg
    have E1 := Lib.hid e1
    clear hg
    go_wp2
    go_ret
    exact ⟨ret_bool (by rw [← HR.out, E1.out]; simp), HF.out⟩
theorem beside_any (T : Tab) (h : Hd) (p q : Int) (w : World) (ht : IsTab w h T) (sm : Few T) :
    Calls Tryd.prog 32 #[.agg (T.cells h).toArray, .int .i64 p, .int .i64 q] w fun e w' => e = .returned (.bool (beside T p q)) ∧ Below w.heap.size w w' := by
  have hsz := (cells_ok ht).size
  rw [List.size_toArray] at hsz
  have hone := (cells_ok ht).one
  have V : ∀ r W, Below w.heap.size w W → Calls Tryd.prog 44 #[.agg (T.cells h).toArray, .int .i64 r] W fun e w' => e = .returned (.tuple #[.agg (oCells (where_ T r)).toArray, .bool (where_ T r).isSome]) ∧ Below W.heap.size W w' := fun r W hb => where_any T h r W (ht.below hb) sm
  have V1 := V p
  have V2 := V q
  have hB : beside T p q = match where_ T p, where_ T q with
    | some a, some b => a.g == b.g && a.k != b.k
    | _, _ => false := rfl
  rw [hB]
  generalize where_ T p = o1 at V1 ⊢
  generalize where_ T q = o2 at V2 ⊢
  have e0 : ∀ a b : Nat, ((a : Int) == (b : Int)) = (a == b) := fun a b => by
    by_cases h : a = b
    · subst h; simp
    · rw [beq_eq_false_iff_ne.2 h, beq_eq_false_iff_ne.2 (by omega)]
  have e1 : ∀ a b : Nat, ((a : Int) != (b : Int)) = (a != b) := fun a b => by unfold bne; rw [e0]
  cases o1 with
  | none =>
    cases o2 with
    | none => exact beside_raw _ p q 0 0 0 0 0 0 0 0 false false w hsz hone (Lib.hid V1) (Lib.hid V2)
    | some b => exact beside_raw _ p q 0 0 0 0 b.g b.k b.i b.p false true w hsz hone (Lib.hid V1) (Lib.hid V2)
  | some a =>
    cases o2 with
    | none => exact beside_raw _ p q a.g a.k a.i a.p 0 0 0 0 true false w hsz hone (Lib.hid V1) (Lib.hid V2)
    | some b =>
      have := beside_raw _ p q a.g a.k a.i a.p b.g b.k b.i b.p true true w hsz hone (Lib.hid V1) (Lib.hid V2)
      rw [e0, e1] at this
      simpa using this
end Where
namespace GenW
open Go.ChangeShapes Go.WideShapes Go.ChangeAt Go.RowKit
open Tab Clone RefS Where
open PlaceM (where_ beside)
open May (infoT)
def withS (T : Tab) (p q : Int) : Int := if beside T p q then ((SetM.withN (SetM.of [p] : Nat) q : Nat) : Int) else ((SetM.of [p] : Nat) : Int)
theorem row_one (w : World) (p : Int) (t : TypeId) (b : Nat) (hb : w.heap.size = b) : RefS.Row (w.alloc (.cells #[.int .i64 p] t)) (some ⟨b, 0, none⟩) [p] := by
  subst hb
  refine ⟨by simp [maxLen], .inr ⟨_, rfl, fun i hi => ?_⟩⟩
  obtain rfl : i = 0 := by simpa using hi
  rw [RefS.add_zero, cell_of_row _ _ _ _ _ _ (heap_alloc_new w _)]
  rfl
theorem with_any (T : Tab) (h : Hd) (p q : Int) (w : World) (ht : IsTab w h T) (sm : PlaceM.Few T) :
    Calls Tryd.prog 47 #[.agg (T.cells h).toArray, .int .i64 p, .int .i64 q] w fun e w' => e = .returned (.int .i64 (withS T p q)) ∧ Below w.heap.size w w' := by
  have hsz := (cells_ok ht).size
  have IA : Hid ((Tryd.prog.info? 31).map (·.size) = some (T.cells h).length) := Lib.hid (by rw [List.size_toArray] at hsz; rw [hsz]; exact infoT)
  have A0 : Hid (Below w.heap.size w (w.alloc (.cells (T.cells h).toArray 31))) := Lib.hid ((Below.refl _ _).alloc (Nat.le_refl _) _)
  have A1 : Hid (Lies (w.alloc (.cells (T.cells h).toArray 31)) ⟨w.heap.size, 0, none⟩ (T.cells h)) := Lib.hid (Row.lies_new w _ _)
  have BC : Hid (∀ W, Below w.heap.size w W → Calls Tryd.prog 32 #[.agg (T.cells h).toArray, .int .i64 p, .int .i64 q] W fun e w' => e = .returned (.bool (beside T p q)) ∧ Below W.heap.size W w') := Lib.hid (fun W hb => beside_any T h p q W (ht.below hb) sm)
  have RS : Hid (withS T p q = if beside T p q then ((SetM.withN (SetM.of [p] : Nat) q : Nat) : Int) else ((SetM.of [p] : Nat) : Int)) := Lib.hid rfl
  generalize withS T p q = r at RS ⊢
  generalize beside T p q = b at RS BC
  clear ht sm
  generalize T.cells h = c at *
  go_enter Tryd.func47, Tryd.ntmps47
  go_upto_region 1 with fail
  generalize w.alloc (.cells c.toArray 31) = u at A0 A1 ⊢
  clear hsz
  go_wp2_with fail
  have hb1 : Below u.heap.size u (u.alloc (.cells #[.int .i64 p] 3)) := (Below.refl _ _).alloc (Nat.le_refl _) _
  have hr := row_one u p 3 _ rfl
  have B0 : Hid (Below w.heap.size w (u.alloc (.cells #[.int .i64 p] 3))) := Lib.hid (A0.out.trans (hb1.mono A0.out.size))
  have B1 := Lib.hid (A1.out.below hb1)
  have HR := Lib.hid hr
  clear hb1 hr A0 A1
  generalize u.alloc (.cells #[.int .i64 p] 3) = u1 at B0 B1 HR ⊢
  refine (rof_any _ _ [p] _ HR.out).mono ?_
  rintro e w' ⟨rfl, rfl⟩
  generalize hs : ((SetM.of [p] : Nat) : Int) = s0 at RS ⊢
  have HS := Lib.hid hs
  clear hs HR
  go_wp2_with (refine Row.wpList_load_g 31 _ rfl (by first | rfl | go_simp) ⟨w.heap.size, 0, none⟩ rfl c _ B1.out Tryd.underlying31 rfl IA.out ?_)
  refine (BC.out _ B0.out).mono ?_
  rintro e u2 ⟨rfl, hb⟩
  have A0 : Hid (Below w.heap.size w u2) := Lib.hid (B0.out.trans (hb.mono B0.out.size))
  clear hb B0 B1 BC
  cases b
  · have HF : Hid (s0 = r) := Lib.hid (by rw [RS.out]; simp)
    go_wp2
    go_ret
    exact ⟨ret_int HF.out, A0.out⟩
  · go_wp2_with fail
    refine (rwith_any s0 q _).mono ?_
    rintro e u3 ⟨rfl, hb⟩
    have HF : Hid (((SetM.withN s0 q : Nat) : Int) = r) := Lib.hid (by rw [RS.out]; simp)
    have E := Lib.hid (A0.out.trans (hb.mono A0.out.size))
    clear hb
    generalize ((SetM.withN s0 q : Nat) : Int) = r2 at HF ⊢
    go_wp2
    go_ret
    exact ⟨ret_int HF.out, E.out⟩
end GenW
namespace CodeAt
open Go
def findR (id : Nat) : Code → Option Code
  | .region i ops d => if i = id then some (.region i ops d) else none
  | .seq a b => (findR id a).or (findR id b)
  | .cond _ a b => (findR id a).or (findR id b)
  | .block _ b => findR id b
  | .loop b => findR id b
  | .scope b => findR id b
  | _ => none
/-- Region number id of a function. -/
def rg (id : Nat) (f : Func) : Code := ((f.body.bind (findR id)).getD .skip)
end CodeAt
namespace Same
open Go.ChangeShapes Go.WideShapes Go.ChangeAt Go.RowKit
open Tab
open May (ret_bool chain take_succ' infoP infoG infoD infoR infoB infoT row_new St)
end Same
namespace Same
open Go.ChangeShapes Go.WideShapes Go.ChangeAt Go.RowKit
open Tab
open May (ret_bool chain take_succ' infoP infoG infoD infoR infoB infoT row_new St)
end Same
namespace Same
open Go.ChangeShapes Go.WideShapes Go.ChangeAt Go.RowKit
open Tab Owned CodeAt
open May (ret_bool chain take_succ' infoP infoG infoD infoR infoB infoT row_new St)
theorem wp_store_whole {P : Program} {o : Oper} {a : Act} {w : World} {K : Act → World → Prop} {Q : Exit → Act → World → Prop} (ty : TypeId) (x y : Operand) (ho : o.op = .store ty x y) (g : Nat) (cells : Array Value) (hx : a.eval x = .pointer (some ⟨g, 0, none⟩)) (hy : a.eval y = .agg cells)
    (t : TypeId) (old : Array Value) (hg : w.heap[g]? = some (.cells old t (0, 0))) (hi : (P.info? ty).map (·.size) = some cells.size) (hs : old.size = cells.size) (h1 : cells.all (·.oneCell') = true) (hd : o.dst = none) (h : K a (w.setRow g cells)) : o.wp P a w K Q := by
  have hr := Row.run_storeAt_at (P := P) w g 0 t ty old cells hg hi (by omega) h1
  have e : (old.toList.take 0 ++ cells.toList ++ old.toList.drop (0 + cells.size)).toArray = cells := by
    rw [List.drop_of_length_le (by simp; omega)]; simp
  rw [e] at hr
  unfold Oper.wp execOp
  simp only [ho, hx, hy, Sem.run_bind, hr, Result.andThen_ok, Sem.run_pure]
  show K (a.put o.dst undef) _
  rw [hd]
  exact h
end Same
namespace GenR
open Go.ChangeShapes Go.WideShapes Go.ChangeAt Go.RowKit
open Tab Clone RefS CodeAt
open May (infoR infoT)
open Same (below_setRow)
open GenW Where
abbrev FromC (a : Option Addr) (cap : Nat) (L : List Int) (w : World) (i n x : Int) : Prop := ∀ W, Below w.heap.size w W → Calls Tryd.prog 33 #[.slice a L.length cap, .int .i64 i, .int .i64 n] W fun e w' => e = .returned (.int .i64 x) ∧ w' = W
theorem rail1_rg {Q : Exit → Act → World → Prop} (hP : ∀ c (a a' : Act) w, a.defers = a'.defers → Q (.panic c) a w → Q (.panic c) a' w) (T : Tab) (c : List Value) (a : Option Addr) (cap : Nat) (L : List Int) (i n x0 x1 x2 x3 : Int) (w u : World) (h0 : 0 ≤ i) (h1 : i ≤ 100000)
    (IA : Hid ((Tryd.prog.info? 31).map (·.size) = some c.length)) (HB : Hid (Below w.heap.size w u)) (HS : Hid (u.heap.size = w.heap.size + 2)) (LT : Hid (∀ w', Below u.heap.size u w' → Lies w' ⟨w.heap.size, 0, none⟩ c))
    (F0 : Hid (FromC a cap L w i n x0)) (F1 : Hid (FromC a cap L w (i + 1) n x1)) (F2 : Hid (FromC a cap L w (i + 2) n x2)) (F3 : Hid (FromC a cap L w (i + 3) n x3))
    (WC : Hid (∀ (p q : Int) W, Below w.heap.size w W → Calls Tryd.prog 47 #[.agg c.toArray, .int .i64 p, .int .i64 q] W fun e w' => e = .returned (.int .i64 (withS T p q)) ∧ Below W.heap.size W w')) (f0 f5 f6 f7 f8 f9 f10 f11 f12 f13 f14 f15 f16 f17 f18 f19 f20 f21 f22 f23 f24 f25 f26 f27 f28 f29 f30 f31 f32 f33 f34 f35 f36 f37 f38 f39 f40 f41 f42 f43 f44 f45 f46 f47 f48 f49 f50 f51 f52 f53 f54 f55 f56 f57 f58 f59 f60 f61 f62 f63 f64 f65 f66 f67 f68 f69 f70 f71 f72 f73 f74 f75 f76 f77 f78 f79 f80 f81 f82 f83 f84 f85 f86 f87 f88 f89 f90 f91 f92 f93 f94 f95 f96 f97 f98 f99 f100 f101 f102 f103 f104 f105 f106 f107 f108 f109 f110 f111 f112 f113 f114 f115 f116 f117 f118 : Value)
    (HQ : Hid (∀ (x_11 x_12 x_13 x_14 x_15 x_16 x_17 x_18 x_19 x_20 x_21 x_22 x_23 x_24 x_25 x_26 x_27 x_28 x_29 x_30 x_31 x_32 x_33 x_34 : Value) (b5 : Nat) (wx : World), w.heap.size + 1 < b5 → wx.heap[b5]? = some (.cells #[I 0, I 0, I (withS T x0 x1), I (withS T x2 x3), I 0, I 0, I 0, I 0, I 0, I 0, I 0] 78 (0, 0)) → Below u.heap.size u wx → Q .normal ⟨#[f0, .slice a L.length cap, .int .i64 i, .int .i64 n, .pointer (some ⟨w.heap.size, 0, none⟩), f5, f6, f7, f8, .pointer (some ⟨b5, 0, none⟩), f10, x_11, x_12, x_13, x_14, x_15, x_16, x_17, x_18, x_19, x_20, x_21, x_22, x_23, x_24, x_25, x_26, x_27, x_28, x_29, x_30, x_31, x_32, x_33, x_34, f35, f36, f37, f38, f39, f40, f41, f42, f43, f44, f45, f46, f47, f48, f49, f50, f51, f52, f53, f54, f55, f56, f57, f58, f59, f60, f61, f62, f63, f64, f65, f66, f67, f68, f69, f70, f71, f72, f73, f74, f75, f76, f77, f78, f79, f80, f81, f82, f83, f84, f85, f86, f87, f88, f89, f90, f91, f92, f93, f94, f95, f96, f97, f98, f99, f100, f101, f102, f103, f104, f105, f106, f107, f108, f109, f110, f111, f112, f113, f114, f115, f116, f117, f118], []⟩ wx)) :
    (rg 1 Tryd.f35).wp Tryd.prog Q ⟨#[f0, .slice a L.length cap, .int .i64 i, .int .i64 n, .pointer (some ⟨w.heap.size, 0, none⟩), f5, f6, f7, f8, f9, f10, f11, f12, f13, f14, f15, f16, f17, f18, f19, f20, f21, f22, f23, f24, f25, f26, f27, f28, f29, f30, f31, f32, f33, f34, f35, f36, f37, f38, f39, f40, f41, f42, f43, f44, f45, f46, f47, f48, f49, f50, f51, f52, f53, f54, f55, f56, f57, f58, f59, f60, f61, f62, f63, f64, f65, f66, f67, f68, f69, f70, f71, f72, f73, f74, f75, f76, f77, f78, f79, f80, f81, f82, f83, f84, f85, f86, f87, f88, f89, f90, f91, f92, f93, f94, f95, f96, f97, f98, f99, f100, f101, f102, f103, f104, f105, f106, f107, f108, f109, f110, f111, f112, f113, f114, f115, f116, f117, f118], []⟩ u := by
  conv => arg 2; whnf
  have e1 : IntKind.i64.wrap (i + 1) = i + 1 := by rw [IntKind.wrap_i64]; omega
  have e2 : IntKind.i64.wrap (i + 2) = i + 2 := by rw [IntKind.wrap_i64]; omega
  have e3 : IntKind.i64.wrap (i + 3) = i + 3 := by rw [IntKind.wrap_i64]; omega
  refine wp_region_held (S := fun w' => Below u.heap.size u w') (by kernel_rfl) ?_
  have hS : Below u.heap.size u { u with drawn := u.drawn + 1 } := (Below.refl _ _).drew
  generalize ({ u with drawn := u.drawn + 1 } : World) = v at hS ⊢
  refine Held.take_load (i := 0) (some 11) rfl 31 _ ⟨w.heap.size, 0, none⟩ c _ rfl rfl (by kernel_rfl) (by kernel_rfl) (by kernel_rfl) (fun c a w h => hP c _ a w (by rfl) h) (by rfl) hS rfl (LT.out) Tryd.underlying31 rfl IA.out ?_
  (try dsimp only [Act.put]); (try simp only [List.setIfInBounds_toArray, List.set_cons_zero, List.set_cons_succ])
  refine Held.take (i := 1) (some 12) rfl (v := ?_) rfl (by kernel_rfl) (by kernel_rfl) (by kernel_rfl) (fun c a w h => hP c _ a w (by rfl) h) (Or.inl ⟨by rfl, ?_⟩) hS ?_
  rotate_left
  · intro w' hw'
    go_simp
    try with_reducible rfl
  (try dsimp only [Act.put]); (try simp only [List.setIfInBounds_toArray, List.set_cons_zero, List.set_cons_succ])
  refine Held.take (i := 2) (some 13) rfl (v := ?_) rfl (by kernel_rfl) (by kernel_rfl) (by kernel_rfl) (fun c a w h => hP c _ a w (by rfl) h) (Or.inl ⟨by rfl, ?_⟩) hS ?_
  rotate_left
  · intro w' hw'
    go_simp
    try with_reducible rfl
  (try dsimp only [Act.put]); (try simp only [List.setIfInBounds_toArray, List.set_cons_zero, List.set_cons_succ])
  refine Held.take (i := 3) (some 14) rfl (v := ?_) rfl (by kernel_rfl) (by kernel_rfl) (by kernel_rfl) (fun c a w h => hP c _ a w (by rfl) h) (Or.inl ⟨by rfl, ?_⟩) hS ?_
  rotate_left
  · intro w' hw'
    go_simp
    try with_reducible rfl
  (try dsimp only [Act.put]); (try simp only [List.setIfInBounds_toArray, List.set_cons_zero, List.set_cons_succ])
  refine Held.take (i := 5) (some 16) rfl (v := ?_) rfl (by kernel_rfl) (by kernel_rfl) (by kernel_rfl) (fun c a w h => hP c _ a w (by rfl) h) (Or.inl ⟨by rfl, ?_⟩) hS ?_
  rotate_left
  · intro w' hw'
    go_simp
    try with_reducible rfl
  (try dsimp only [Act.put]); (try simp only [List.setIfInBounds_toArray, List.set_cons_zero, List.set_cons_succ])
  refine Held.take (i := 6) (some 17) rfl (v := ?_) rfl (by kernel_rfl) (by kernel_rfl) (by kernel_rfl) (fun c a w h => hP c _ a w (by rfl) h) (Or.inl ⟨by rfl, ?_⟩) hS ?_
  rotate_left
  · intro w' hw'
    go_simp
    try with_reducible rfl
  (try dsimp only [Act.put]); (try simp only [List.setIfInBounds_toArray, List.set_cons_zero, List.set_cons_succ])
  refine Held.take (i := 7) (some 18) rfl (v := ?_) rfl (by kernel_rfl) (by kernel_rfl) (by kernel_rfl) (fun c a w h => hP c _ a w (by rfl) h) (Or.inl ⟨by rfl, ?_⟩) hS ?_
  rotate_left
  · intro w' hw'
    go_simp
    try with_reducible rfl
  (try dsimp only [Act.put]); (try simp only [List.setIfInBounds_toArray, List.set_cons_zero, List.set_cons_succ])
  refine Held.take (i := 8) (some 19) rfl (v := ?_) rfl (by kernel_rfl) (by kernel_rfl) (by kernel_rfl) (fun c a w h => hP c _ a w (by rfl) h) (Or.inl ⟨by rfl, ?_⟩) hS ?_
  rotate_left
  · intro w' hw'
    go_simp
    try with_reducible rfl
  (try dsimp only [Act.put]); (try simp only [List.setIfInBounds_toArray, List.set_cons_zero, List.set_cons_succ])
  refine Held.take_load (i := 11) (some 22) rfl 31 _ ⟨w.heap.size, 0, none⟩ c _ rfl rfl (by kernel_rfl) (by kernel_rfl) (by kernel_rfl) (fun c a w h => hP c _ a w (by rfl) h) (by rfl) hS rfl (LT.out) Tryd.underlying31 rfl IA.out ?_
  (try dsimp only [Act.put]); (try simp only [List.setIfInBounds_toArray, List.set_cons_zero, List.set_cons_succ])
  refine Held.take (i := 12) (some 23) rfl (v := ?_) rfl (by kernel_rfl) (by kernel_rfl) (by kernel_rfl) (fun c a w h => hP c _ a w (by rfl) h) (Or.inl ⟨by rfl, ?_⟩) hS ?_
  rotate_left
  · intro w' hw'
    go_simp
    try with_reducible rfl
  (try dsimp only [Act.put]); (try simp only [List.setIfInBounds_toArray, List.set_cons_zero, List.set_cons_succ])
  refine Held.take (i := 13) (some 24) rfl (v := ?_) rfl (by kernel_rfl) (by kernel_rfl) (by kernel_rfl) (fun c a w h => hP c _ a w (by rfl) h) (Or.inl ⟨by rfl, ?_⟩) hS ?_
  rotate_left
  · intro w' hw'
    go_simp
    try with_reducible rfl
  (try dsimp only [Act.put]); (try simp only [List.setIfInBounds_toArray, List.set_cons_zero, List.set_cons_succ])
  refine Held.take (i := 14) (some 25) rfl (v := ?_) rfl (by kernel_rfl) (by kernel_rfl) (by kernel_rfl) (fun c a w h => hP c _ a w (by rfl) h) (Or.inl ⟨by rfl, ?_⟩) hS ?_
  rotate_left
  · intro w' hw'
    go_simp
    try with_reducible rfl
  (try dsimp only [Act.put]); (try simp only [List.setIfInBounds_toArray, List.set_cons_zero, List.set_cons_succ])
  refine Held.take (i := 15) (some 26) rfl (v := ?_) rfl (by kernel_rfl) (by kernel_rfl) (by kernel_rfl) (fun c a w h => hP c _ a w (by rfl) h) (Or.inl ⟨by rfl, ?_⟩) hS ?_
  rotate_left
  · intro w' hw'
    go_simp
    try with_reducible rfl
  (try dsimp only [Act.put]); (try simp only [List.setIfInBounds_toArray, List.set_cons_zero, List.set_cons_succ])
  refine Held.take (i := 17) (some 28) rfl (v := ?_) rfl (by kernel_rfl) (by kernel_rfl) (by kernel_rfl) (fun c a w h => hP c _ a w (by rfl) h) (Or.inl ⟨by rfl, ?_⟩) hS ?_
  rotate_left
  · intro w' hw'
    go_simp
    try with_reducible rfl
  (try dsimp only [Act.put]); (try simp only [List.setIfInBounds_toArray, List.set_cons_zero, List.set_cons_succ])
  refine Held.take (i := 18) (some 29) rfl (v := ?_) rfl (by kernel_rfl) (by kernel_rfl) (by kernel_rfl) (fun c a w h => hP c _ a w (by rfl) h) (Or.inl ⟨by rfl, ?_⟩) hS ?_
  rotate_left
  · intro w' hw'
    go_simp
    try with_reducible rfl
  (try dsimp only [Act.put]); (try simp only [List.setIfInBounds_toArray, List.set_cons_zero, List.set_cons_succ])
  refine Held.take (i := 19) (some 30) rfl (v := ?_) rfl (by kernel_rfl) (by kernel_rfl) (by kernel_rfl) (fun c a w h => hP c _ a w (by rfl) h) (Or.inl ⟨by rfl, ?_⟩) hS ?_
  rotate_left
  · intro w' hw'
    go_simp
    try with_reducible rfl
  (try dsimp only [Act.put]); (try simp only [List.setIfInBounds_toArray, List.set_cons_zero, List.set_cons_succ])
  refine Held.take (i := 20) (some 31) rfl (v := ?_) rfl (by kernel_rfl) (by kernel_rfl) (by kernel_rfl) (fun c a w h => hP c _ a w (by rfl) h) (Or.inl ⟨by rfl, ?_⟩) hS ?_
  rotate_left
  · intro w' hw'
    go_simp
    try with_reducible rfl
  (try dsimp only [Act.put]); (try simp only [List.setIfInBounds_toArray, List.set_cons_zero, List.set_cons_succ])
  refine wpAnyH_ready (rs := [4, 24]) (by kernel_rfl) (by simp) (AllReadyH.cons rfl (fun K hK => ?_) (AllReadyH.cons rfl (fun K hK => ?_) AllReadyH.nil))
  · go_simp
    refine (F0.out _ (HB.out.trans (hS.mono HB.out.size))).mono ?_
    rintro e w' ⟨rfl, hq⟩
    subst w'
    go_simp
    refine hK.out _ _ hS (fun hS => ?_)
    clear hK K
    refine wpAnyH_ready (rs := [9, 24]) (by kernel_rfl) (by simp) (AllReadyH.cons rfl (fun K hK => ?_) (AllReadyH.cons rfl (fun K hK => ?_) AllReadyH.nil))
    · go_simp
      refine (F1.out _ (HB.out.trans (hS.mono HB.out.size))).mono ?_
      rintro e w' ⟨rfl, hq⟩
      subst w'
      go_simp
      refine hK.out _ _ hS (fun hS => ?_)
      clear hK K
      refine wpAnyH_ready (rs := [10, 24]) (by kernel_rfl) (by simp) (AllReadyH.cons rfl (fun K hK => ?_) (AllReadyH.cons rfl (fun K hK => ?_) AllReadyH.nil))
      · go_simp
        refine (WC.out x0 x1 _ (HB.out.trans (hS.mono HB.out.size))).mono ?_
        rintro e v ⟨rfl, hb⟩
        go_simp
        refine hK.out _ _ (Below.trans hS (hb.mono hS.size)) (fun hS => ?_)
        clear hK K hb
        refine wpAnyH_ready (rs := [16, 24]) (by kernel_rfl) (by simp) (AllReadyH.cons rfl (fun K hK => ?_) (AllReadyH.cons rfl (fun K hK => ?_) AllReadyH.nil))
        · go_simp
          refine (F2.out _ (HB.out.trans (hS.mono HB.out.size))).mono ?_
          rintro e w' ⟨rfl, hq⟩
          subst w'
          go_simp
          refine hK.out _ _ hS (fun hS => ?_)
          clear hK K
          refine wpAnyH_ready (rs := [21, 24]) (by kernel_rfl) (by simp) (AllReadyH.cons rfl (fun K hK => ?_) (AllReadyH.cons rfl (fun K hK => ?_) AllReadyH.nil))
          · go_simp
            refine (F3.out _ (HB.out.trans (hS.mono HB.out.size))).mono ?_
            rintro e w' ⟨rfl, hq⟩
            subst w'
            go_simp
            refine hK.out _ _ hS (fun hS => ?_)
            clear hK K
            refine wpAnyH_ready (rs := [22, 24]) (by kernel_rfl) (by simp) (AllReadyH.cons rfl (fun K hK => ?_) (AllReadyH.cons rfl (fun K hK => ?_) AllReadyH.nil))
            · go_simp
              refine (WC.out x2 x3 _ (HB.out.trans (hS.mono HB.out.size))).mono ?_
              rintro e v ⟨rfl, hb⟩
              go_simp
              refine hK.out _ _ (Below.trans hS (hb.mono hS.size)) (fun hS => ?_)
              clear hK K hb
              refine Held.take (i := 23) (some 34) rfl (v := ?_) rfl (by kernel_rfl) (by kernel_rfl) (by kernel_rfl) (fun c a w h => hP c _ a w (by rfl) h) (Or.inl ⟨by rfl, ?_⟩) hS ?_
              rotate_left
              · intro w' hw'
                go_simp
                try with_reducible rfl
              (try dsimp only [Act.put]); (try simp only [List.setIfInBounds_toArray, List.set_cons_zero, List.set_cons_succ])
              refine wpAnyH_ready (rs := [24]) (by kernel_rfl) (by simp) (AllReadyH.cons rfl (fun K hK => ?_) AllReadyH.nil)
              go_simp
              have g5 := heap_alloc_new v (.cells #[I 0, I 0, I 0, I 0, I 0, I 0, I 0, I 0, I 0, I 0, I 0] 78)
              have b5lt : w.heap.size + 1 < v.heap.size := by have := HS.out; have := hS.size; omega
              have b5u : u.heap.size ≤ v.heap.size := hS.size
              refine hK.out _ _ (hS.alloc hS.size _) (fun hS => ?_)
              clear hK K
              generalize v.heap.size = b5 at g5 b5lt b5u ⊢
              generalize World.alloc v _ = v at g5 hS ⊢
              have G5 := Lib.hid g5
              clear g5
              refine wpAnyH_ready (rs := [25]) (by kernel_rfl) (by simp) (AllReadyH.cons rfl (fun K hK => ?_) AllReadyH.nil)
              rw [if_pos (by rfl)]
              refine Same.wp_store_whole 78 _ _ rfl b5 #[I 0, I 0, I (withS T x0 x1), I (withS T x2 x3), I 0, I 0, I 0, I 0, I 0, I 0, I 0] rfl rfl 78 _ G5.out infoR rfl (by simp [Value.oneCell']) rfl ?_
              have hS2 := below_setRow hS (g := b5) (by omega) #[I 0, I 0, I (withS T x0 x1), I (withS T x2 x3), I 0, I 0, I 0, I 0, I 0, I 0, I 0]
              have g5 := setRow_heap v b5 _ #[I 0, I 0, I (withS T x0 x1), I (withS T x2 x3), I 0, I 0, I 0, I 0, I 0, I 0, I 0] _ _ G5.out
              clear G5 hS
              generalize v.setRow _ _ = v at hS2 g5 ⊢
              refine hK.out _ _ hS2 (fun hS => ?_)
              clear hK K hS2
              refine wpAnyH_done (by kernel_rfl) ?_ _
              exact HQ.out _ _ _ _ _ _ _ _ _ _ _ _ _ _ _ _ _ _ _ _ _ _ _ _ b5 _ b5lt g5 hS
            · go_simp
              have g5 := heap_alloc_new v (.cells #[I 0, I 0, I 0, I 0, I 0, I 0, I 0, I 0, I 0, I 0, I 0] 78)
              have b5lt : w.heap.size + 1 < v.heap.size := by have := HS.out; have := hS.size; omega
              have b5u : u.heap.size ≤ v.heap.size := hS.size
              refine hK.out _ _ (hS.alloc hS.size _) (fun hS => ?_)
              clear hK K
              generalize v.heap.size = b5 at g5 b5lt b5u ⊢
              generalize World.alloc v _ = v at g5 hS ⊢
              have G5 := Lib.hid g5
              clear g5
              refine wpAnyH_ready (rs := [22]) (by kernel_rfl) (by simp) (AllReadyH.cons rfl (fun K hK => ?_) AllReadyH.nil)
              go_simp
              refine (WC.out x2 x3 _ (HB.out.trans (hS.mono HB.out.size))).mono ?_
              rintro e v ⟨rfl, hb⟩
              go_simp
              have G5b := Lib.hid ((hb.block _ (Array.getElem?_eq_some_iff.1 G5.out).1).trans G5.out)
              clear G5
              have G5 := G5b
              clear G5b
              refine hK.out _ _ (Below.trans hS (hb.mono hS.size)) (fun hS => ?_)
              clear hK K hb
              refine Held.take (i := 23) (some 34) rfl (v := ?_) rfl (by kernel_rfl) (by kernel_rfl) (by kernel_rfl) (fun c a w h => hP c _ a w (by rfl) h) (Or.inl ⟨by rfl, ?_⟩) hS ?_
              rotate_left
              · intro w' hw'
                go_simp
                try with_reducible rfl
              (try dsimp only [Act.put]); (try simp only [List.setIfInBounds_toArray, List.set_cons_zero, List.set_cons_succ])
              refine wpAnyH_ready (rs := [25]) (by kernel_rfl) (by simp) (AllReadyH.cons rfl (fun K hK => ?_) AllReadyH.nil)
              rw [if_pos (by rfl)]
              refine Same.wp_store_whole 78 _ _ rfl b5 #[I 0, I 0, I (withS T x0 x1), I (withS T x2 x3), I 0, I 0, I 0, I 0, I 0, I 0, I 0] rfl rfl 78 _ G5.out infoR rfl (by simp [Value.oneCell']) rfl ?_
              have hS2 := below_setRow hS (g := b5) (by omega) #[I 0, I 0, I (withS T x0 x1), I (withS T x2 x3), I 0, I 0, I 0, I 0, I 0, I 0, I 0]
              have g5 := setRow_heap v b5 _ #[I 0, I 0, I (withS T x0 x1), I (withS T x2 x3), I 0, I 0, I 0, I 0, I 0, I 0, I 0] _ _ G5.out
              clear G5 hS
              generalize v.setRow _ _ = v at hS2 g5 ⊢
              refine hK.out _ _ hS2 (fun hS => ?_)
              clear hK K hS2
              refine wpAnyH_done (by kernel_rfl) ?_ _
              exact HQ.out _ _ _ _ _ _ _ _ _ _ _ _ _ _ _ _ _ _ _ _ _ _ _ _ b5 _ b5lt g5 hS
          · go_simp
            have g5 := heap_alloc_new v (.cells #[I 0, I 0, I 0, I 0, I 0, I 0, I 0, I 0, I 0, I 0, I 0] 78)
            have b5lt : w.heap.size + 1 < v.heap.size := by have := HS.out; have := hS.size; omega
            have b5u : u.heap.size ≤ v.heap.size := hS.size
            refine hK.out _ _ (hS.alloc hS.size _) (fun hS => ?_)
            clear hK K
            generalize v.heap.size = b5 at g5 b5lt b5u ⊢
            generalize World.alloc v _ = v at g5 hS ⊢
            have G5 := Lib.hid g5
            clear g5
            refine wpAnyH_ready (rs := [21]) (by kernel_rfl) (by simp) (AllReadyH.cons rfl (fun K hK => ?_) AllReadyH.nil)
            go_simp
            refine (F3.out _ (HB.out.trans (hS.mono HB.out.size))).mono ?_
            rintro e w' ⟨rfl, hq⟩
            subst w'
            go_simp
            refine hK.out _ _ hS (fun hS => ?_)
            clear hK K
            refine wpAnyH_ready (rs := [22]) (by kernel_rfl) (by simp) (AllReadyH.cons rfl (fun K hK => ?_) AllReadyH.nil)
            go_simp
            refine (WC.out x2 x3 _ (HB.out.trans (hS.mono HB.out.size))).mono ?_
            rintro e v ⟨rfl, hb⟩
            go_simp
            have G5b := Lib.hid ((hb.block _ (Array.getElem?_eq_some_iff.1 G5.out).1).trans G5.out)
            clear G5
            have G5 := G5b
            clear G5b
            refine hK.out _ _ (Below.trans hS (hb.mono hS.size)) (fun hS => ?_)
            clear hK K hb
            refine Held.take (i := 23) (some 34) rfl (v := ?_) rfl (by kernel_rfl) (by kernel_rfl) (by kernel_rfl) (fun c a w h => hP c _ a w (by rfl) h) (Or.inl ⟨by rfl, ?_⟩) hS ?_
            rotate_left
            · intro w' hw'
              go_simp
              try with_reducible rfl
            (try dsimp only [Act.put]); (try simp only [List.setIfInBounds_toArray, List.set_cons_zero, List.set_cons_succ])
            refine wpAnyH_ready (rs := [25]) (by kernel_rfl) (by simp) (AllReadyH.cons rfl (fun K hK => ?_) AllReadyH.nil)
            rw [if_pos (by rfl)]
            refine Same.wp_store_whole 78 _ _ rfl b5 #[I 0, I 0, I (withS T x0 x1), I (withS T x2 x3), I 0, I 0, I 0, I 0, I 0, I 0, I 0] rfl rfl 78 _ G5.out infoR rfl (by simp [Value.oneCell']) rfl ?_
            have hS2 := below_setRow hS (g := b5) (by omega) #[I 0, I 0, I (withS T x0 x1), I (withS T x2 x3), I 0, I 0, I 0, I 0, I 0, I 0, I 0]
            have g5 := setRow_heap v b5 _ #[I 0, I 0, I (withS T x0 x1), I (withS T x2 x3), I 0, I 0, I 0, I 0, I 0, I 0, I 0] _ _ G5.out
            clear G5 hS
            generalize v.setRow _ _ = v at hS2 g5 ⊢
            refine hK.out _ _ hS2 (fun hS => ?_)
            clear hK K hS2
            refine wpAnyH_done (by kernel_rfl) ?_ _
            exact HQ.out _ _ _ _ _ _ _ _ _ _ _ _ _ _ _ _ _ _ _ _ _ _ _ _ b5 _ b5lt g5 hS
        · go_simp
          have g5 := heap_alloc_new v (.cells #[I 0, I 0, I 0, I 0, I 0, I 0, I 0, I 0, I 0, I 0, I 0] 78)
          have b5lt : w.heap.size + 1 < v.heap.size := by have := HS.out; have := hS.size; omega
          have b5u : u.heap.size ≤ v.heap.size := hS.size
          refine hK.out _ _ (hS.alloc hS.size _) (fun hS => ?_)
          clear hK K
          generalize v.heap.size = b5 at g5 b5lt b5u ⊢
          generalize World.alloc v _ = v at g5 hS ⊢
          have G5 := Lib.hid g5
          clear g5
          refine wpAnyH_ready (rs := [16]) (by kernel_rfl) (by simp) (AllReadyH.cons rfl (fun K hK => ?_) AllReadyH.nil)
          go_simp
          refine (F2.out _ (HB.out.trans (hS.mono HB.out.size))).mono ?_
          rintro e w' ⟨rfl, hq⟩
          subst w'
          go_simp
          refine hK.out _ _ hS (fun hS => ?_)
          clear hK K
          refine wpAnyH_ready (rs := [21]) (by kernel_rfl) (by simp) (AllReadyH.cons rfl (fun K hK => ?_) AllReadyH.nil)
          go_simp
          refine (F3.out _ (HB.out.trans (hS.mono HB.out.size))).mono ?_
          rintro e w' ⟨rfl, hq⟩
          subst w'
          go_simp
          refine hK.out _ _ hS (fun hS => ?_)
          clear hK K
          refine wpAnyH_ready (rs := [22]) (by kernel_rfl) (by simp) (AllReadyH.cons rfl (fun K hK => ?_) AllReadyH.nil)
          go_simp
          refine (WC.out x2 x3 _ (HB.out.trans (hS.mono HB.out.size))).mono ?_
          rintro e v ⟨rfl, hb⟩
          go_simp
          have G5b := Lib.hid ((hb.block _ (Array.getElem?_eq_some_iff.1 G5.out).1).trans G5.out)
          clear G5
          have G5 := G5b
          clear G5b
          refine hK.out _ _ (Below.trans hS (hb.mono hS.size)) (fun hS => ?_)
          clear hK K hb
          refine Held.take (i := 23) (some 34) rfl (v := ?_) rfl (by kernel_rfl) (by kernel_rfl) (by kernel_rfl) (fun c a w h => hP c _ a w (by rfl) h) (Or.inl ⟨by rfl, ?_⟩) hS ?_
          rotate_left
          · intro w' hw'
            go_simp
            try with_reducible rfl
          (try dsimp only [Act.put]); (try simp only [List.setIfInBounds_toArray, List.set_cons_zero, List.set_cons_succ])
          refine wpAnyH_ready (rs := [25]) (by kernel_rfl) (by simp) (AllReadyH.cons rfl (fun K hK => ?_) AllReadyH.nil)
          rw [if_pos (by rfl)]
          refine Same.wp_store_whole 78 _ _ rfl b5 #[I 0, I 0, I (withS T x0 x1), I (withS T x2 x3), I 0, I 0, I 0, I 0, I 0, I 0, I 0] rfl rfl 78 _ G5.out infoR rfl (by simp [Value.oneCell']) rfl ?_
          have hS2 := below_setRow hS (g := b5) (by omega) #[I 0, I 0, I (withS T x0 x1), I (withS T x2 x3), I 0, I 0, I 0, I 0, I 0, I 0, I 0]
          have g5 := setRow_heap v b5 _ #[I 0, I 0, I (withS T x0 x1), I (withS T x2 x3), I 0, I 0, I 0, I 0, I 0, I 0, I 0] _ _ G5.out
          clear G5 hS
          generalize v.setRow _ _ = v at hS2 g5 ⊢
          refine hK.out _ _ hS2 (fun hS => ?_)
          clear hK K hS2
          refine wpAnyH_done (by kernel_rfl) ?_ _
          exact HQ.out _ _ _ _ _ _ _ _ _ _ _ _ _ _ _ _ _ _ _ _ _ _ _ _ b5 _ b5lt g5 hS
      · go_simp
        have g5 := heap_alloc_new v (.cells #[I 0, I 0, I 0, I 0, I 0, I 0, I 0, I 0, I 0, I 0, I 0] 78)
        have b5lt : w.heap.size + 1 < v.heap.size := by have := HS.out; have := hS.size; omega
        have b5u : u.heap.size ≤ v.heap.size := hS.size
        refine hK.out _ _ (hS.alloc hS.size _) (fun hS => ?_)
        clear hK K
        generalize v.heap.size = b5 at g5 b5lt b5u ⊢
        generalize World.alloc v _ = v at g5 hS ⊢
        have G5 := Lib.hid g5
        clear g5
        refine wpAnyH_ready (rs := [10]) (by kernel_rfl) (by simp) (AllReadyH.cons rfl (fun K hK => ?_) AllReadyH.nil)
        go_simp
        refine (WC.out x0 x1 _ (HB.out.trans (hS.mono HB.out.size))).mono ?_
        rintro e v ⟨rfl, hb⟩
        go_simp
        have G5b := Lib.hid ((hb.block _ (Array.getElem?_eq_some_iff.1 G5.out).1).trans G5.out)
        clear G5
        have G5 := G5b
        clear G5b
        refine hK.out _ _ (Below.trans hS (hb.mono hS.size)) (fun hS => ?_)
        clear hK K hb
        refine wpAnyH_ready (rs := [16]) (by kernel_rfl) (by simp) (AllReadyH.cons rfl (fun K hK => ?_) AllReadyH.nil)
        go_simp
        refine (F2.out _ (HB.out.trans (hS.mono HB.out.size))).mono ?_
        rintro e w' ⟨rfl, hq⟩
        subst w'
        go_simp
        refine hK.out _ _ hS (fun hS => ?_)
        clear hK K
        refine wpAnyH_ready (rs := [21]) (by kernel_rfl) (by simp) (AllReadyH.cons rfl (fun K hK => ?_) AllReadyH.nil)
        go_simp
        refine (F3.out _ (HB.out.trans (hS.mono HB.out.size))).mono ?_
        rintro e w' ⟨rfl, hq⟩
        subst w'
        go_simp
        refine hK.out _ _ hS (fun hS => ?_)
        clear hK K
        refine wpAnyH_ready (rs := [22]) (by kernel_rfl) (by simp) (AllReadyH.cons rfl (fun K hK => ?_) AllReadyH.nil)
        go_simp
        refine (WC.out x2 x3 _ (HB.out.trans (hS.mono HB.out.size))).mono ?_
        rintro e v ⟨rfl, hb⟩
        go_simp
        have G5b := Lib.hid ((hb.block _ (Array.getElem?_eq_some_iff.1 G5.out).1).trans G5.out)
        clear G5
        have G5 := G5b
        clear G5b
        refine hK.out _ _ (Below.trans hS (hb.mono hS.size)) (fun hS => ?_)
        clear hK K hb
        refine Held.take (i := 23) (some 34) rfl (v := ?_) rfl (by kernel_rfl) (by kernel_rfl) (by kernel_rfl) (fun c a w h => hP c _ a w (by rfl) h) (Or.inl ⟨by rfl, ?_⟩) hS ?_
        rotate_left
        · intro w' hw'
          go_simp
          try with_reducible rfl
        (try dsimp only [Act.put]); (try simp only [List.setIfInBounds_toArray, List.set_cons_zero, List.set_cons_succ])
        refine wpAnyH_ready (rs := [25]) (by kernel_rfl) (by simp) (AllReadyH.cons rfl (fun K hK => ?_) AllReadyH.nil)
        rw [if_pos (by rfl)]
        refine Same.wp_store_whole 78 _ _ rfl b5 #[I 0, I 0, I (withS T x0 x1), I (withS T x2 x3), I 0, I 0, I 0, I 0, I 0, I 0, I 0] rfl rfl 78 _ G5.out infoR rfl (by simp [Value.oneCell']) rfl ?_
        have hS2 := below_setRow hS (g := b5) (by omega) #[I 0, I 0, I (withS T x0 x1), I (withS T x2 x3), I 0, I 0, I 0, I 0, I 0, I 0, I 0]
        have g5 := setRow_heap v b5 _ #[I 0, I 0, I (withS T x0 x1), I (withS T x2 x3), I 0, I 0, I 0, I 0, I 0, I 0, I 0] _ _ G5.out
        clear G5 hS
        generalize v.setRow _ _ = v at hS2 g5 ⊢
        refine hK.out _ _ hS2 (fun hS => ?_)
        clear hK K hS2
        refine wpAnyH_done (by kernel_rfl) ?_ _
        exact HQ.out _ _ _ _ _ _ _ _ _ _ _ _ _ _ _ _ _ _ _ _ _ _ _ _ b5 _ b5lt g5 hS
    · go_simp
      have g5 := heap_alloc_new v (.cells #[I 0, I 0, I 0, I 0, I 0, I 0, I 0, I 0, I 0, I 0, I 0] 78)
      have b5lt : w.heap.size + 1 < v.heap.size := by have := HS.out; have := hS.size; omega
      have b5u : u.heap.size ≤ v.heap.size := hS.size
      refine hK.out _ _ (hS.alloc hS.size _) (fun hS => ?_)
      clear hK K
      generalize v.heap.size = b5 at g5 b5lt b5u ⊢
      generalize World.alloc v _ = v at g5 hS ⊢
      have G5 := Lib.hid g5
      clear g5
      refine wpAnyH_ready (rs := [9]) (by kernel_rfl) (by simp) (AllReadyH.cons rfl (fun K hK => ?_) AllReadyH.nil)
      go_simp
      refine (F1.out _ (HB.out.trans (hS.mono HB.out.size))).mono ?_
      rintro e w' ⟨rfl, hq⟩
      subst w'
      go_simp
      refine hK.out _ _ hS (fun hS => ?_)
      clear hK K
      refine wpAnyH_ready (rs := [10]) (by kernel_rfl) (by simp) (AllReadyH.cons rfl (fun K hK => ?_) AllReadyH.nil)
      go_simp
      refine (WC.out x0 x1 _ (HB.out.trans (hS.mono HB.out.size))).mono ?_
      rintro e v ⟨rfl, hb⟩
      go_simp
      have G5b := Lib.hid ((hb.block _ (Array.getElem?_eq_some_iff.1 G5.out).1).trans G5.out)
      clear G5
      have G5 := G5b
      clear G5b
      refine hK.out _ _ (Below.trans hS (hb.mono hS.size)) (fun hS => ?_)
      clear hK K hb
      refine wpAnyH_ready (rs := [16]) (by kernel_rfl) (by simp) (AllReadyH.cons rfl (fun K hK => ?_) AllReadyH.nil)
      go_simp
      refine (F2.out _ (HB.out.trans (hS.mono HB.out.size))).mono ?_
      rintro e w' ⟨rfl, hq⟩
      subst w'
      go_simp
      refine hK.out _ _ hS (fun hS => ?_)
      clear hK K
      refine wpAnyH_ready (rs := [21]) (by kernel_rfl) (by simp) (AllReadyH.cons rfl (fun K hK => ?_) AllReadyH.nil)
      go_simp
      refine (F3.out _ (HB.out.trans (hS.mono HB.out.size))).mono ?_
      rintro e w' ⟨rfl, hq⟩
      subst w'
      go_simp
      refine hK.out _ _ hS (fun hS => ?_)
      clear hK K
      refine wpAnyH_ready (rs := [22]) (by kernel_rfl) (by simp) (AllReadyH.cons rfl (fun K hK => ?_) AllReadyH.nil)
      go_simp
      refine (WC.out x2 x3 _ (HB.out.trans (hS.mono HB.out.size))).mono ?_
      rintro e v ⟨rfl, hb⟩
      go_simp
      have G5b := Lib.hid ((hb.block _ (Array.getElem?_eq_some_iff.1 G5.out).1).trans G5.out)
      clear G5
      have G5 := G5b
      clear G5b
      refine hK.out _ _ (Below.trans hS (hb.mono hS.size)) (fun hS => ?_)
      clear hK K hb
      refine Held.take (i := 23) (some 34) rfl (v := ?_) rfl (by kernel_rfl) (by kernel_rfl) (by kernel_rfl) (fun c a w h => hP c _ a w (by rfl) h) (Or.inl ⟨by rfl, ?_⟩) hS ?_
      rotate_left
      · intro w' hw'
        go_simp
        try with_reducible rfl
      (try dsimp only [Act.put]); (try simp only [List.setIfInBounds_toArray, List.set_cons_zero, List.set_cons_succ])
      refine wpAnyH_ready (rs := [25]) (by kernel_rfl) (by simp) (AllReadyH.cons rfl (fun K hK => ?_) AllReadyH.nil)
      rw [if_pos (by rfl)]
      refine Same.wp_store_whole 78 _ _ rfl b5 #[I 0, I 0, I (withS T x0 x1), I (withS T x2 x3), I 0, I 0, I 0, I 0, I 0, I 0, I 0] rfl rfl 78 _ G5.out infoR rfl (by simp [Value.oneCell']) rfl ?_
      have hS2 := below_setRow hS (g := b5) (by omega) #[I 0, I 0, I (withS T x0 x1), I (withS T x2 x3), I 0, I 0, I 0, I 0, I 0, I 0, I 0]
      have g5 := setRow_heap v b5 _ #[I 0, I 0, I (withS T x0 x1), I (withS T x2 x3), I 0, I 0, I 0, I 0, I 0, I 0, I 0] _ _ G5.out
      clear G5 hS
      generalize v.setRow _ _ = v at hS2 g5 ⊢
      refine hK.out _ _ hS2 (fun hS => ?_)
      clear hK K hS2
      refine wpAnyH_done (by kernel_rfl) ?_ _
      exact HQ.out _ _ _ _ _ _ _ _ _ _ _ _ _ _ _ _ _ _ _ _ _ _ _ _ b5 _ b5lt g5 hS
  · go_simp
    have g5 := heap_alloc_new v (.cells #[I 0, I 0, I 0, I 0, I 0, I 0, I 0, I 0, I 0, I 0, I 0] 78)
    have b5lt : w.heap.size + 1 < v.heap.size := by have := HS.out; have := hS.size; omega
    have b5u : u.heap.size ≤ v.heap.size := hS.size
    refine hK.out _ _ (hS.alloc hS.size _) (fun hS => ?_)
    clear hK K
    generalize v.heap.size = b5 at g5 b5lt b5u ⊢
    generalize World.alloc v _ = v at g5 hS ⊢
    have G5 := Lib.hid g5
    clear g5
    refine wpAnyH_ready (rs := [4]) (by kernel_rfl) (by simp) (AllReadyH.cons rfl (fun K hK => ?_) AllReadyH.nil)
    go_simp
    refine (F0.out _ (HB.out.trans (hS.mono HB.out.size))).mono ?_
    rintro e w' ⟨rfl, hq⟩
    subst w'
    go_simp
    refine hK.out _ _ hS (fun hS => ?_)
    clear hK K
    refine wpAnyH_ready (rs := [9]) (by kernel_rfl) (by simp) (AllReadyH.cons rfl (fun K hK => ?_) AllReadyH.nil)
    go_simp
    refine (F1.out _ (HB.out.trans (hS.mono HB.out.size))).mono ?_
    rintro e w' ⟨rfl, hq⟩
    subst w'
    go_simp
    refine hK.out _ _ hS (fun hS => ?_)
    clear hK K
    refine wpAnyH_ready (rs := [10]) (by kernel_rfl) (by simp) (AllReadyH.cons rfl (fun K hK => ?_) AllReadyH.nil)
    go_simp
    refine (WC.out x0 x1 _ (HB.out.trans (hS.mono HB.out.size))).mono ?_
    rintro e v ⟨rfl, hb⟩
    go_simp
    have G5b := Lib.hid ((hb.block _ (Array.getElem?_eq_some_iff.1 G5.out).1).trans G5.out)
    clear G5
    have G5 := G5b
    clear G5b
    refine hK.out _ _ (Below.trans hS (hb.mono hS.size)) (fun hS => ?_)
    clear hK K hb
    refine wpAnyH_ready (rs := [16]) (by kernel_rfl) (by simp) (AllReadyH.cons rfl (fun K hK => ?_) AllReadyH.nil)
    go_simp
    refine (F2.out _ (HB.out.trans (hS.mono HB.out.size))).mono ?_
    rintro e w' ⟨rfl, hq⟩
    subst w'
    go_simp
    refine hK.out _ _ hS (fun hS => ?_)
    clear hK K
    refine wpAnyH_ready (rs := [21]) (by kernel_rfl) (by simp) (AllReadyH.cons rfl (fun K hK => ?_) AllReadyH.nil)
    go_simp
    refine (F3.out _ (HB.out.trans (hS.mono HB.out.size))).mono ?_
    rintro e w' ⟨rfl, hq⟩
    subst w'
    go_simp
    refine hK.out _ _ hS (fun hS => ?_)
    clear hK K
    refine wpAnyH_ready (rs := [22]) (by kernel_rfl) (by simp) (AllReadyH.cons rfl (fun K hK => ?_) AllReadyH.nil)
    go_simp
    refine (WC.out x2 x3 _ (HB.out.trans (hS.mono HB.out.size))).mono ?_
    rintro e v ⟨rfl, hb⟩
    go_simp
    have G5b := Lib.hid ((hb.block _ (Array.getElem?_eq_some_iff.1 G5.out).1).trans G5.out)
    clear G5
    have G5 := G5b
    clear G5b
    refine hK.out _ _ (Below.trans hS (hb.mono hS.size)) (fun hS => ?_)
    clear hK K hb
    refine Held.take (i := 23) (some 34) rfl (v := ?_) rfl (by kernel_rfl) (by kernel_rfl) (by kernel_rfl) (fun c a w h => hP c _ a w (by rfl) h) (Or.inl ⟨by rfl, ?_⟩) hS ?_
    rotate_left
    · intro w' hw'
      go_simp
      try with_reducible rfl
    (try dsimp only [Act.put]); (try simp only [List.setIfInBounds_toArray, List.set_cons_zero, List.set_cons_succ])
    refine wpAnyH_ready (rs := [25]) (by kernel_rfl) (by simp) (AllReadyH.cons rfl (fun K hK => ?_) AllReadyH.nil)
    rw [if_pos (by rfl)]
    refine Same.wp_store_whole 78 _ _ rfl b5 #[I 0, I 0, I (withS T x0 x1), I (withS T x2 x3), I 0, I 0, I 0, I 0, I 0, I 0, I 0] rfl rfl 78 _ G5.out infoR rfl (by simp [Value.oneCell']) rfl ?_
    have hS2 := below_setRow hS (g := b5) (by omega) #[I 0, I 0, I (withS T x0 x1), I (withS T x2 x3), I 0, I 0, I 0, I 0, I 0, I 0, I 0]
    have g5 := setRow_heap v b5 _ #[I 0, I 0, I (withS T x0 x1), I (withS T x2 x3), I 0, I 0, I 0, I 0, I 0, I 0, I 0] _ _ G5.out
    clear G5 hS
    generalize v.setRow _ _ = v at hS2 g5 ⊢
    refine hK.out _ _ hS2 (fun hS => ?_)
    clear hK K hS2
    refine wpAnyH_done (by kernel_rfl) ?_ _
    exact HQ.out _ _ _ _ _ _ _ _ _ _ _ _ _ _ _ _ _ _ _ _ _ _ _ _ b5 _ b5lt g5 hS
end GenR
end Go.Proofs.YtkccepdifgldeaaDoor
