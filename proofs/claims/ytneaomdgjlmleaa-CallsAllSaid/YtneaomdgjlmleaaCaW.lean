/- The chapter's examples hold (stage 15): the statement's own awake returns true. -/
import Derived.Test.YtneaomdgjlmleaaCaR
import Derived.Test.YtneaomdgjlmleaaCloneA
namespace Go.Proofs.Ytneaomdgjlmleaa.Cl
open Go.ChangeShapes Go.WideShapes Go.ChangeAt Go.RowKit
open Tab PlaceM OnS Phx QL
open Clone (zTab zHd)
open May (infoP infoT)
set_option linter.unusedVariables false
set_option linter.unusedSimpArgs false
set_option maxRecDepth 100000
def pA : Ph := ⟨true, 0, 0, 0, 0, 0, 0, 0, 0, 0, 0, true, false⟩
def tA : Tab := { zTab with phases := zTab.phases.set 2 pA }
theorem tA_is (w : World) : IsTab w zHd tA := ⟨rfl, rfl, rfl, ⟨[], rfl, RowOf.nil w, fun g hg => by simp at hg⟩, RowOf.nil w, RowOf.nil w, RowOf.nil w⟩
theorem put_A : ((zTab.cells zHd).toArray.toList.take 26 ++ pA.cells.toArray.toList ++ (zTab.cells zHd).toArray.toList.drop (26 + pA.cells.toArray.size)).toArray = (tA.cells zHd).toArray := rfl
theorem v1 : whS (rCar 0 0 4) tA = 4 := by decide +kernel
theorem v2 : whS (rFoot 0 0 0) tA = 0 := by decide +kernel
theorem v3 : whS (rWant 4 0 (whS (rHeld 0) tA : Nat)) tA = 4 := by decide +kernel
theorem v4 : whS (rCar 4 4 0) tA = 0 := by decide +kernel
theorem field0 (a b : Int) (w : World) : Sem.run Try.prog (Instr.field 33 (.agg #[I a, I b]) 0) w = .ok (I a) w := by kernel_rfl
set_option maxHeartbeats 4000000 in
theorem awake_any (w : World) : Calls Try.prog 17 #[] w fun e w' => e = .returned (.bool true) ∧ Below w.heap.size w w' := by
  have hz := (zero_of_info Clone.info31).1
  have ZS : (zTab.cells zHd).toArray.size = 131 := (cells_ok (Clone.z_is w)).size
  have P1 := Lib.hid put_A
  have IA : Hid ((Try.prog.info? 31).map (·.size) = some (tA.cells zHd).length) := Lib.hid infoT
  have S1 : Hid (∀ W, Calls Try.prog 13 #[.agg (tA.cells zHd).toArray, .agg #[I 0, I 0], .int .i64 4, .int .i64 0, .int .i64 0, .int .i64 0] W fun e w' => e = .returned (.agg #[I 4, I 0]) ∧ Below W.heap.size W w') := Lib.hid (fun W => by have := step_any (tA_is W) 0 0 4 0 0 0; rwa [v1, v2] at this)
  have S2 : Hid (∀ W, Calls Try.prog 15 #[.agg (tA.cells zHd).toArray, .agg #[I 4, I 0], .int .i64 0] W fun e w' => e = .returned (.int .i64 4) ∧ Below W.heap.size W w') := Lib.hid (fun W => by have := want_any (tA_is W) 4 0 0; rwa [v3] at this)
  have S3 : Hid (∀ W, Calls Try.prog 13 #[.agg (tA.cells zHd).toArray, .agg #[I 4, I 0], .int .i64 0, .int .i64 0, .int .i64 4, .int .i64 0] W fun e w' => e = .returned (.agg #[I 0, I 0]) ∧ Below W.heap.size W w') := Lib.hid (fun W => by have := step_any (tA_is W) 4 0 0 0 4 0; rwa [v4, v2] at this)
  have PS : Hid (pA.cells.toArray.size = 13) := Lib.hid rfl
  have CS : Hid ((tA.cells zHd).toArray.size = 131) := Lib.hid rfl
  generalize (zTab.cells zHd).toArray = Z at *
  generalize tA.cells zHd = c at *
  have h0 := Lib.hid ((Blk.Bks.nil w).alloc Z 31)
  go_enter Try.func17, Try.ntmps17
  go_upto_region 2 with fail
  generalize w.alloc (.cells Z 31) = u0 at h0 ⊢
  generalize w.heap.size = gt at h0 ⊢
  have RUN := Lib.hid ((Row.run_storeAt_at (P := Try.prog) u0 gt 26 31 23 Z pA.cells.toArray (h0.out.at 0 rfl) infoP (by rw [PS.out, ZS]; decide) (Ph.one pA)).trans (by rw [P1.out]))
  go_upto_region 3 with (refine wpList_store_run (by rfl) 23 _ _ rfl ⟨gt, 26, none⟩ pA.cells.toArray rfl rfl RUN.out ?_)
  have h1 := h0.out.put 0 rfl c.toArray
  simp only [List.set_cons_zero] at h1
  generalize World.setRow u0 gt _ = u1 at h1 ⊢
  have H1 := Lib.hid h1
  clear h0 h1 P1 hz ZS
  go_wp2_with (refine Row.wpList_load_g 31 _ rfl (by first | rfl | go_simp) ⟨gt, 0, none⟩ rfl c _ (by have := Row.lies_of_block (H1.out.at 0 rfl); simpa using this) Try.underlying31 rfl IA.out ?_)
  refine (S1.out _).mono ?_
  rintro e u2 ⟨rfl, hb⟩
  have H2 := Lib.hid (H1.out.step hb)
  clear hb H1 S1
  go_upto_region 4 with fail
  have h3 := H2.out.alloc #[I 4, I 0] 33
  generalize World.alloc u2 _ = u3 at h3 ⊢
  generalize u2.heap.size = gc at h3 ⊢
  have H3 := Lib.hid h3
  clear h3 H2
  have k0 : u3.cell? ⟨gc, 0, none⟩ = some (I 4) := H3.out.cell 0 0 rfl rfl
  have k1 : u3.cell? ⟨gc, 1, none⟩ = some (I 0) := H3.out.cell 0 1 rfl rfl
  go_wp2_with (first | (refine Row.wpList_load_g 31 _ rfl (by first | rfl | go_simp) ⟨gt, 0, none⟩ rfl c _ (by have := Row.lies_of_block (H3.out.at 1 rfl); simpa using this) Try.underlying31 rfl IA.out ?_) | (refine Row.wpList_load_g 33 _ rfl (by first | rfl | go_simp) ⟨gc, 0, none⟩ rfl [I 4, I 0] _ (by have := Row.lies_of_block (H3.out.at 0 rfl); simpa using this) Try.underlying33 rfl infoC2 ?_))
  refine (S2.out _).mono ?_
  rintro e u4 ⟨rfl, hb⟩
  have H4 := Lib.hid (H3.out.step hb)
  clear hb H3 S2 k0 k1
  have k0 : u4.cell? ⟨gc, 0, none⟩ = some (I 4) := H4.out.cell 0 0 rfl rfl
  have k1 : u4.cell? ⟨gc, 1, none⟩ = some (I 0) := H4.out.cell 0 1 rfl rfl
  go_wp2_with (first | (refine Row.wpList_load_g 31 _ rfl (by first | rfl | go_simp) ⟨gt, 0, none⟩ rfl c _ (by have := Row.lies_of_block (H4.out.at 1 rfl); simpa using this) Try.underlying31 rfl IA.out ?_) | (refine Row.wpList_load_g 33 _ rfl (by first | rfl | go_simp) ⟨gc, 0, none⟩ rfl [I 4, I 0] _ (by have := Row.lies_of_block (H4.out.at 0 rfl); simpa using this) Try.underlying33 rfl infoC2 ?_))
  refine (S3.out _).mono ?_
  rintro e u5 ⟨rfl, hb⟩
  have H5 := Lib.hid (H4.out.step hb)
  have f0 : ∀ W, Sem.run Try.prog (Instr.field 33 (.agg #[I 0, I 0]) 0) W = .ok (I 0) W := fun W => field0 0 0 W
  clear hb H4 S3
  go_wp2
  go_ret
  exact ⟨rfl, H5.out.bel⟩
end Go.Proofs.Ytneaomdgjlmleaa.Cl
