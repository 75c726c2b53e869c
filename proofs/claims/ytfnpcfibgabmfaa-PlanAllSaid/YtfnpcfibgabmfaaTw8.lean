/- The chapter's examples hold (stage 8): the statement's own awake returns true. -/
import Derived.Test.YtfnpcfibgabmfaaRows
import Derived.Test.YtfnpcfibgabmfaaPlanW
import Derived.Test.YtfnpcfibgabmfaaPlanN
import Derived.Test.YtfnpcfibgabmfaaHeld
import Derived.Test.YtfnpcfibgabmfaaCloneB
import Derived.Deep.Cut
namespace Go.Proofs.Ytfnpcfibgabmfaa.Wa8
open Go.ChangeShapes Go.WideShapes Go.ChangeAt Go.RowKit
open Tab Clone PlaceM PlanM PlanC
open May (chain row_new)
set_option linter.unusedVariables false
set_option linter.unusedSimpArgs false
def aTab : Tab := { zTab with groups := [([0, 1], [4, 5])] }
def aHd (b : Nat) : Hd := { zHd with g := ⟨some ⟨b, 0, none⟩, 1⟩ }
def aGr (b0 b1 : Nat) : Gr := ⟨[0, 1], [4, 5], ⟨some ⟨b0, 0, none⟩, 2⟩, ⟨some ⟨b1, 0, none⟩, 2⟩⟩
set_option maxRecDepth 10000 in
theorem a_cells (b : Nat) : (zTab.cells zHd).set 104 (.slice (some ⟨b, 0, none⟩) 1 1) = aTab.cells (aHd b) := rfl
theorem builtA (a : Option Addr) (n c : Nat) : Try.prog.built 33 [(1, .slice a n c)] = some ((zTab.cells zHd).set 104 (.slice a n c)).toArray := by kernel_rfl
theorem a_b0 : beside aTab 0 5 = true := by decide
theorem a_b1 : beside aTab 0 1 = false := by decide
theorem a_m : membS aTab 0 = 51 := by decide
theorem a_n : nextS aTab 0 0 (-1) 2 = 1 := by decide +kernel
theorem a_few : Few aTab := ⟨by decide, fun g hg => by simp [aTab] at hg; subst hg; decide⟩
abbrev W1 (w : World) : World := w.alloc (.cells #[I 0, I 1] 3)
abbrev W2 (w : World) : World := (W1 w).alloc (.cells #[I 4, I 5] 3)
abbrev W3 (w : World) : World := (W2 w).alloc (.cells #[.slice (some ⟨w.heap.size, 0, none⟩) 2 2, .slice (some ⟨w.heap.size + 1, 0, none⟩) 2 2] 42)
theorem below3 (w : World) : Below w.heap.size w (W3 w) := (((Below.refl _ _).alloc (Nat.le_refl _) _).alloc (by simp) _).alloc (by simp; omega) _
theorem size2 (w : World) : (W2 w).heap.size = w.heap.size + 1 + 1 := by simp
theorem a_is (w : World) : IsTab (W3 w) (aHd (w.heap.size + 1 + 1)) aTab := by
  have s1 : (W1 w).heap.size = w.heap.size + 1 := by simp
  have b1 : Below (W1 w).heap.size (W1 w) (W2 w) := (Below.refl _ _).alloc (Nat.le_refl _) _
  have b2 : Below (W2 w).heap.size (W2 w) (W3 w) := (Below.refl _ _).alloc (Nat.le_refl _) _
  have r0 : IntRow (W1 w) ⟨some ⟨w.heap.size, 0, none⟩, 2⟩ [0, 1] := row_new w 3 [0, 1] 2 rfl (by decide) _ rfl
  have r1 : IntRow (W2 w) ⟨some ⟨(W1 w).heap.size, 0, none⟩, 2⟩ [4, 5] := row_new (W1 w) 3 [4, 5] 2 rfl (by decide) _ rfl
  rw [s1] at r1
  have hl := Row.lies_of_block (heap_alloc_new (W2 w) (.cells #[.slice (some ⟨w.heap.size, 0, none⟩) 2 2, .slice (some ⟨w.heap.size + 1, 0, none⟩) 2 2] 42))
  rw [size2] at hl
  refine ⟨rfl, rfl, rfl, ⟨[aGr w.heap.size (w.heap.size + 1)], rfl, .inr ⟨⟨w.heap.size + 1 + 1, 0, none⟩, rfl, Nat.le_refl _, (show 1 ≤ maxLen by decide), fun i v hv => ?_⟩, fun g hg => ?_⟩, RowOf.nil _, RowOf.nil _, RowOf.nil _⟩
  · match i, hv with
    | 0, hv =>
      obtain rfl := Option.some.inj hv
      rw [Nat.zero_mul, Tab.add_zero]
      exact hl
  · obtain rfl : g = aGr w.heap.size (w.heap.size + 1) := by simpa using hg
    exact ⟨RowOf.below (RowOf.below r0 b1) b2, RowOf.below r1 b2⟩
set_option maxRecDepth 10000 in
set_option maxHeartbeats 4000000 in
theorem awake_any (w : World) : Calls Try.prog 20 #[] w fun e w' => e = .returned (.bool true) ∧ Below w.heap.size w w' := by
  have hz := (zero_of_info info31).1
  have IT := Lib.hid (a_is w)
  have B3 := Lib.hid (below3 w)
  have hsz : (aTab.cells (aHd (w.heap.size + 1 + 1))).toArray.size = 131 := (cells_ok (a_is w)).size
  rw [List.size_toArray] at hsz
  have HSZ := Lib.hid hsz
  have HB : Hid (Try.prog.built 33 [(1, .slice (some ⟨w.heap.size + 1 + 1, 0, none⟩) 1 1)] = some (aTab.cells (aHd (w.heap.size + 1 + 1))).toArray) := Lib.hid (by rw [builtA, a_cells])
  have HO := Lib.hid (cells_ok (a_is w)).one
  have ZS : Hid ((zTab.cells zHd).toArray.size = 131) := Lib.hid (cells_ok (z_is w)).size
  have V1 : Hid (∀ W, Below (W3 w).heap.size (W3 w) W → Calls Try.prog 23 #[.agg (aTab.cells (aHd (w.heap.size + 1 + 1))).toArray, .int .i64 0, .int .i64 5] W fun e w' => e = .returned (.bool true) ∧ Below W.heap.size W w') := Lib.hid (fun W hb => by have := PlanW.pbeside_any aTab _ 0 5 W ((a_is w).below hb); rwa [a_b0] at this)
  have V2 : Hid (∀ W, Below (W3 w).heap.size (W3 w) W → Calls Try.prog 23 #[.agg (aTab.cells (aHd (w.heap.size + 1 + 1))).toArray, .int .i64 0, .int .i64 1] W fun e w' => e = .returned (.bool false) ∧ Below W.heap.size W w') := Lib.hid (fun W hb => by have := PlanW.pbeside_any aTab _ 0 1 W ((a_is w).below hb); rwa [a_b1] at this)
  have V3 : Hid (∀ W, Below (W3 w).heap.size (W3 w) W → Calls Try.prog 25 #[.agg (aTab.cells (aHd (w.heap.size + 1 + 1))).toArray, .int .i64 0] W fun e w' => e = .returned (.int .i64 51) ∧ Below W.heap.size W w') := Lib.hid (fun W hb => by have := members_any aTab _ 0 W ((a_is w).below hb); rwa [a_m] at this)
  have V4 : Hid (∀ W, Below (W3 w).heap.size (W3 w) W → Calls Try.prog 29 #[.agg (aTab.cells (aHd (w.heap.size + 1 + 1))).toArray, .int .i64 0, .int .i64 0, .int .i64 (-1), .int .i64 2] W fun e w' => e = .returned (.int .i64 1) ∧ Below W.heap.size W w') := Lib.hid (fun W hb => by have := PlanN.next_any aTab _ 0 0 (-1) 2 W ((a_is w).below hb); rwa [a_n] at this)
  generalize hA : aTab.cells (aHd (w.heap.size + 1 + 1)) = A at HSZ HB HO V1 V2 V3 V4
  generalize hZ : zTab.cells zHd = Z at hz ZS
  have ZA : Hid (Z.toArray.size = A.toArray.size) := Lib.hid (by rw [ZS.out, List.size_toArray, HSZ.out])
  clear hA hZ hsz
  go_enter Try.func20, Try.ntmps20
  go_upto_region 1 with fail
  go_upto_region 2 with (first | (refine Held.wpList_build1 rfl 33 1 _ rfl _ rfl A.toArray HB.out ?_) | (refine Row.wpList_store_new rfl 33 _ _ rfl _ Z.toArray A.toArray rfl (show Value.pointer (some ⟨w.heap.size + 1 + 1 + 1, 0, none⟩) = _ by simp) rfl (by rw [List.size_toArray, HSZ.out]; exact infoT) ZA.out HO.out ?_))
  have hb4 : Below (W3 w).heap.size (W3 w) ((W3 w).alloc (.cells A.toArray 33)) := (Below.refl _ _).alloc (Nat.le_refl _) _
  have hl := Row.lies_new (W3 w) A.toArray 33
  have hs3 : (W3 w).heap.size = w.heap.size + 1 + 1 + 1 := by simp
  rw [hs3] at hl
  have B4 : Hid (Below (W3 w).heap.size (W3 w) ((W3 w).alloc (.cells A.toArray 33))) := Lib.hid hb4
  have L4 : Hid (Lies ((W3 w).alloc (.cells A.toArray 33)) ⟨w.heap.size + 1 + 1 + 1, 0, none⟩ A) := Lib.hid (by simpa using hl)
  have IA : Hid ((Try.prog.info? 33).map (·.size) = some A.length) := Lib.hid (by rw [HSZ.out]; exact infoT)
  clear hb4 hl hs3 hz IT HB HO ZS HSZ ZA
  (try dsimp only [Act.put])
  generalize (W3 w).alloc (.cells A.toArray 33) = w4 at B4 L4 ⊢
  have LL : Hid (∀ W, Below w4.heap.size w4 W → Lies W ⟨w.heap.size + 1 + 1 + 1, 0, none⟩ A) := Lib.hid (fun W hb => L4.out.below hb)
  have C0 : Hid (Below w4.heap.size w4 w4) := Lib.hid (Below.refl _ _)
  go_wp2_with (refine Row.wpList_load_g 33 _ rfl (by first | rfl | go_simp) ⟨w.heap.size + 1 + 1 + 1, 0, none⟩ rfl A _ (LL.out _ C0.out) Try.underlying33 rfl IA.out ?_)
  refine (V1.out _ (B4.out.trans (C0.out.mono B4.out.size))).mono ?_
  rintro e u1 ⟨rfl, hb⟩
  have C1 : Hid (Below w4.heap.size w4 u1) := Lib.hid (C0.out.trans (hb.mono C0.out.size))
  clear hb
  go_wp2_with (refine Row.wpList_load_g 33 _ rfl (by first | rfl | go_simp) ⟨w.heap.size + 1 + 1 + 1, 0, none⟩ rfl A _ (LL.out _ C1.out) Try.underlying33 rfl IA.out ?_)
  refine (V2.out _ (B4.out.trans (C1.out.mono B4.out.size))).mono ?_
  rintro e u2 ⟨rfl, hb⟩
  have C2 : Hid (Below w4.heap.size w4 u2) := Lib.hid (C1.out.trans (hb.mono C1.out.size))
  clear hb
  go_wp2_with (refine Row.wpList_load_g 33 _ rfl (by first | rfl | go_simp) ⟨w.heap.size + 1 + 1 + 1, 0, none⟩ rfl A _ (LL.out _ C2.out) Try.underlying33 rfl IA.out ?_)
  refine (V3.out _ (B4.out.trans (C2.out.mono B4.out.size))).mono ?_
  rintro e u3 ⟨rfl, hb⟩
  have C3 : Hid (Below w4.heap.size w4 u3) := Lib.hid (C2.out.trans (hb.mono C2.out.size))
  clear hb
  go_wp2_with (refine Row.wpList_load_g 33 _ rfl (by first | rfl | go_simp) ⟨w.heap.size + 1 + 1 + 1, 0, none⟩ rfl A _ (LL.out _ C3.out) Try.underlying33 rfl IA.out ?_)
  refine (V4.out _ (B4.out.trans (C3.out.mono B4.out.size))).mono ?_
  rintro e u4 ⟨rfl, hb⟩
  have C4 : Hid (Below w4.heap.size w4 u4) := Lib.hid (C3.out.trans (hb.mono C3.out.size))
  clear hb
  have E := Lib.hid (B3.out.trans ((B4.out.trans (C4.out.mono B4.out.size)).mono B3.out.size))
  go_wp2
  go_ret
  exact ⟨rfl, E.out⟩
end Go.Proofs.Ytfnpcfibgabmfaa.Wa8
