/- The statements' own Fits, at any phase: May of a table whose first phase it is. -/
import Derived.Test.YtbpfknkbiaplpaaMayE
import Derived.Test.YtbpfknkbiaplpaaCloneB
import Derived.Test.YtbpfknkbiaplpaaQL
import Derived.Test.YtbpfknkbiaplpaaBlk
namespace Go.Proofs.Ytbpfknkbiaplpaa.Fits
open Go.ChangeShapes Go.WideShapes Go.ChangeAt Go.RowKit
open Tab Clone QL
open May (infoP)
set_option linter.unusedVariables false
set_option linter.unusedSimpArgs false
set_option maxRecDepth 100000
def fitT (p : Ph) : Tab := ⟨p :: List.replicate 7 zPh, [], List.replicate 8 0, [], [], [], 0, 0, 0, 0, 0, List.replicate 8 0, 0, 0⟩
theorem fit_is (p : Ph) (w : World) : IsTab w zHd (fitT p) := ⟨rfl, rfl, rfl, ⟨[], rfl, RowOf.nil w, fun g hg => by simp at hg⟩, RowOf.nil w, RowOf.nil w, RowOf.nil w⟩
theorem fit_cells (p : Ph) : ((zTab.cells zHd).toArray.toList.take 0 ++ p.cells.toArray.toList ++ (zTab.cells zHd).toArray.toList.drop (0 + p.cells.toArray.size)).toArray = ((fitT p).cells zHd).toArray := rfl
set_option maxHeartbeats 4000000 in
theorem fits_any (p : Ph) (w : World) : Calls Try.prog 9 #[.agg p.cells.toArray] w fun e w' => e = .returned (.bool (May.tabMay (fitT p))) ∧ Below w.heap.size w w' := by
  have hz := (zero_of_info info31).1
  have ZS : (zTab.cells zHd).toArray.size = 131 := (cells_ok (z_is w)).size
  have FC := fit_cells p
  generalize hZ : (zTab.cells zHd).toArray = Z at hz ZS FC
  clear hZ
  have IA : Hid ((Try.prog.info? 45).map (·.size) = some ((fitT p).cells zHd).length) := Lib.hid (by have := (cells_ok (fit_is p w)).size; rw [List.size_toArray] at this; rw [this]; exact May.infoT)
  have MY : Hid (∀ W, Calls Try.prog 22 #[.agg ((fitT p).cells zHd).toArray] W fun e w' => e = .returned (.bool (May.tabMay (fitT p))) ∧ Below W.heap.size W w') := Lib.hid (fun W => May.rmay_any (fitT p) zHd W (fit_is p W))
  generalize May.tabMay (fitT p) = res at MY ⊢
  generalize (fitT p).cells zHd = c at MY IA FC
  have h0 := ((Blk.Bks.nil w).alloc p.cells.toArray 23).alloc Z 45
  rw [show (w.alloc (.cells p.cells.toArray 23)).heap.size = w.heap.size + 1 by simp] at h0
  go_enter Try.func9, Try.ntmps9
  go_upto_region 2 with fail
  generalize World.alloc (World.alloc w _) _ = v at h0 ⊢
  generalize hgt : w.heap.size + 1 = gt at h0 ⊢
  generalize w.heap.size = gp at h0 ⊢
  clear hgt
  have H0 := Lib.hid h0
  clear h0
  have hr := Row.run_storeAt_at (P := Try.prog) v gt 0 45 23 Z p.cells.toArray (H0.out.at 0 rfl) infoP (by rw [ZS]; show 0 + 13 ≤ 131; omega) (Ph.one _)
  go_upto_region 3 with (first
    | (refine Row.wpList_load_g 23 _ rfl (by first | rfl | go_simp) ⟨gp, 0, none⟩ rfl p.cells _ (by have := Row.lies_of_block (H0.out.at 1 rfl); simpa using this) Try.underlying23 rfl infoP ?_)
    | ((refine QL.wpList_store_mid rfl 23 _ _ rfl gt 0 p.cells.toArray rfl rfl 45 Z (H0.out.at 0 rfl) infoP (by rw [ZS]; show 0 + 13 ≤ 131; omega) (Ph.one _) ?_)))
  have hput := H0.out.put 0 rfl c.toArray
  rw [FC]
  simp only [List.set_cons_succ, List.set_cons_zero] at hput
  generalize World.setRow _ gt _ = v2 at hput ⊢
  have HB := Lib.hid hput
  clear hput H0
  go_wp2_with (refine Row.wpList_load_g 45 _ rfl (by first | rfl | go_simp) ⟨gt, 0, none⟩ rfl c _ (by have := Row.lies_of_block (HB.out.at 0 rfl); simpa using this) Try.underlying45 rfl IA.out ?_)
  refine (MY.out _).mono ?_
  rintro e v3 ⟨rfl, hb⟩
  have HC := Lib.hid (HB.out.step hb)
  clear hb
  go_wp2
  go_ret
  exact ⟨rfl, HC.out.bel⟩
end Go.Proofs.Ytbpfknkbiaplpaa.Fits
