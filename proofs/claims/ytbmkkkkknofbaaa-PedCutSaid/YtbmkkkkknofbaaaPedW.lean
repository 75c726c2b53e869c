/- The examples of stage 17: the statements' own test of them. -/
import Derived.Test.YtbmkkkkknofbaaaPed
import Derived.Test.YtbmkkkkknofbaaaQB
namespace Go.Proofs.Ytbmkkkkknofbaaa.Ped
open Go.ChangeShapes Go.WideShapes Go.ChangeAt Go.RowKit
open Tab Flat TabArg
open May (infoP)
set_option linter.unusedVariables false
set_option linter.unusedSimpArgs false
set_option maxRecDepth 100000
/-- A phase that has but a walk and blinks. -/
def wb (k l : Int) : Ph := ⟨false, 0, 0, 0, 0, 0, 0, 0, k, l, 0, false, false⟩
theorem wb_cells {p : Ph} {k l : Int} (hp : p = wb k l) : p.cells.toArray = #[.bool false, I 0, I 0, I 0, I 0, I 0, I 0, I 0, I k, I l, I 0, .bool false, .bool false] := by rw [hp]; rfl
theorem ft_same (a b : Int) : Same.Eqs 25 [I a, I b] [I a, I b] true := by simpa using ft_eqs a b a b
set_option maxHeartbeats 8000000 in
theorem awake_any (w : World) : Calls Try.prog 13 #[] w fun e w' => e = .returned (.bool true) ∧ Below w.heap.size w w' := by
  obtain ⟨p, hp⟩ : ∃ p : Ph, p = wb 2 1 := ⟨_, rfl⟩
  have hc := wb_cells hp
  have S1 : Hid (∀ W, Calls Try.prog 7 #[.agg p.cells.toArray, .agg #[I 0, I 0], .bool true] W fun e w' => e = .returned (.agg #[I 1, I 1]) ∧ Below W.heap.size W w') := Lib.hid (fun W => step_is (by rw [hp]; decide +kernel) W)
  have S2 : Hid (∀ W, Calls Try.prog 7 #[.agg p.cells.toArray, .agg #[I 1, I 1], .bool false] W fun e w' => e = .returned (.agg #[I 1, I 2]) ∧ Below W.heap.size W w') := Lib.hid (fun W => step_is (by rw [hp]; decide +kernel) W)
  have S3 : Hid (∀ W, Calls Try.prog 7 #[.agg p.cells.toArray, .agg #[I 1, I 2], .bool false] W fun e w' => e = .returned (.agg #[I 2, I 1]) ∧ Below W.heap.size W w') := Lib.hid (fun W => step_is (by rw [hp]; decide +kernel) W)
  have S4 : Hid (∀ W, Calls Try.prog 7 #[.agg p.cells.toArray, .agg #[I 2, I 1], .bool false] W fun e w' => e = .returned (.agg #[I 0, I 0]) ∧ Below W.heap.size W w') := Lib.hid (fun W => step_is (by rw [hp]; decide +kernel) W)
  have OV : Hid (∀ W, Calls Try.prog 11 #[.agg #[I 2, I 1], .int .i64 1] W fun e w' => e = .returned (.bool true) ∧ Below W.heap.size W w') := Lib.hid (fun W => by have := over_any 2 1 1 W; rwa [show ov 2 1 1 = true by decide] at this)
  have h0 := (Blk.Bks.nil w).alloc p.cells.toArray 23
  rw [hc] at h0
  go_enter Try.func13, Try.ntmps13
  go_upto_region 2 with fail
  rw [← hc] at h0 ⊢
  clear hc hp
  generalize World.alloc w _ = v0 at h0 ⊢
  generalize w.heap.size = gp at h0 ⊢
  have H0 := Lib.hid h0
  clear h0
  go_wp2_with (refine Row.wpList_load_g 23 _ rfl (by first | rfl | go_simp) ⟨gp, 0, none⟩ rfl p.cells _ (by have := Row.lies_of_block (H0.out.at 0 rfl); simpa using this) Try.underlying23 rfl infoP ?_)
  refine (S1.out _).mono ?_
  rintro e vc ⟨rfl, bc⟩
  go_upto_region 3 with fail
  have hn := (H0.out.step bc).alloc #[I 1, I 1] 25
  clear bc H0
  generalize World.alloc vc _ = u1 at hn ⊢
  generalize vc.heap.size = g1 at hn ⊢
  have H1 := Lib.hid hn
  clear hn
  clear vc
  go_wp2_with (first | (refine Row.wpList_load_g 23 _ rfl (by first | rfl | go_simp) ⟨gp, 0, none⟩ rfl p.cells _ (by have := Row.lies_of_block (H1.out.at 1 rfl); simpa using this) Try.underlying23 rfl infoP ?_) | (refine Row.wpList_load_g 25 _ rfl (by first | rfl | go_simp) ⟨g1, 0, none⟩ rfl [I 1, I 1] _ (by have := Row.lies_of_block (H1.out.at 0 rfl); simpa using this) Try.underlying25 rfl infoFt ?_))
  refine (S2.out _).mono ?_
  rintro e vc ⟨rfl, bc⟩
  go_upto_region 4 with fail
  have hn := (H1.out.step bc).alloc #[I 1, I 2] 25
  clear bc H1
  generalize World.alloc vc _ = u2 at hn ⊢
  generalize vc.heap.size = g2 at hn ⊢
  have H2 := Lib.hid hn
  clear hn
  clear vc
  go_wp2_with (first | (refine Row.wpList_load_g 23 _ rfl (by first | rfl | go_simp) ⟨gp, 0, none⟩ rfl p.cells _ (by have := Row.lies_of_block (H2.out.at 2 rfl); simpa using this) Try.underlying23 rfl infoP ?_) | (refine Row.wpList_load_g 25 _ rfl (by first | rfl | go_simp) ⟨g2, 0, none⟩ rfl [I 1, I 2] _ (by have := Row.lies_of_block (H2.out.at 0 rfl); simpa using this) Try.underlying25 rfl infoFt ?_))
  refine (S3.out _).mono ?_
  rintro e vc ⟨rfl, bc⟩
  go_upto_region 5 with fail
  have hn := (H2.out.step bc).alloc #[I 2, I 1] 25
  clear bc H2
  generalize World.alloc vc _ = u3 at hn ⊢
  generalize vc.heap.size = g3 at hn ⊢
  have H3 := Lib.hid hn
  clear hn
  clear vc
  have k1 : u3.cell? ⟨g1, 0, none⟩ = some (I 1) := H3.out.cell 2 0 rfl rfl
  have k2 : u3.cell? ⟨g2, 1, none⟩ = some (I 2) := H3.out.cell 1 1 rfl rfl
  have k3 : u3.cell? ⟨g3, 0, none⟩ = some (I 2) := H3.out.cell 0 0 rfl rfl
  go_wp2_with (first | (refine Row.wpList_load_g 23 _ rfl (by first | rfl | go_simp) ⟨gp, 0, none⟩ rfl p.cells _ (by have := Row.lies_of_block (H3.out.at 3 rfl); simpa using this) Try.underlying23 rfl infoP ?_) | (refine Row.wpList_load_g 25 _ rfl (by first | rfl | go_simp) ⟨g3, 0, none⟩ rfl [I 2, I 1] _ (by have := Row.lies_of_block (H3.out.at 0 rfl); simpa using this) Try.underlying25 rfl infoFt ?_))
  refine (S4.out _).mono ?_
  rintro e vd ⟨rfl, bd⟩
  have HD := Lib.hid (H3.out.step bd)
  clear bd k1 k2 k3
  go_wp2_with (first | (refine Row.wpList_eql 25 _ _ _ rfl (by rfl) #[I 0, I 0] #[I 0, I 0] rfl rfl guardFt true (ft_same _ _) ?_) | (refine Row.wpList_load_g 25 _ rfl (by first | rfl | go_simp) ⟨g3, 0, none⟩ rfl [I 2, I 1] _ (by have := Row.lies_of_block (HD.out.at 0 rfl); simpa using this) Try.underlying25 rfl infoFt ?_))
  refine (OV.out _).mono ?_
  rintro e ve ⟨rfl, be⟩
  go_wp2
  go_ret
  exact ⟨rfl, (HD.out.step be).bel⟩
end Go.Proofs.Ytbmkkkkknofbaaa.Ped
