/- The chapter's examples hold: the statement's own awake returns true. -/
import Derived.Test.YtpofccenoobojaaRows
import Derived.Test.YtpofccenoobojaaCloneB
import Derived.Test.YtpofccenoobojaaSameE
import Derived.Test.YtpofccenoobojaaHeld
import Derived.Deep.Cut
namespace Go.Proofs.Ytpofccenoobojaa.Wa
open Go.ChangeShapes Go.WideShapes Go.ChangeAt Go.RowKit
open Tab Clone Owned
open May (chain infoT)
set_option linter.unusedVariables false
set_option linter.unusedSimpArgs false
theorem chain' {a b c : World} (h : Below a.heap.size a b) (k : Below b.heap.size b c) : Below a.heap.size a c := h.trans (k.mono h.size)
def oTab : Tab := { zTab with window := -1 }
set_option maxRecDepth 10000 in
theorem o_cells : (zTab.cells zHd).set 129 (.int .i64 (-1)) = oTab.cells zHd := rfl
theorem z_may : May.tabMay zTab = true := by decide
theorem o_may : May.tabMay oTab = false := by decide
theorem o_is (w : World) : IsTab w zHd oTab := ⟨rfl, rfl, rfl, ⟨[], rfl, RowOf.nil w, fun g hg => by simp at hg⟩, RowOf.nil w, RowOf.nil w, RowOf.nil w⟩
theorem o_small : Small oTab := ⟨by decide, fun g hg => by simp [oTab, zTab] at hg, by decide, by decide, by decide⟩
theorem built31 : Try.prog.built 31 [] = some (zTab.cells zHd).toArray := by kernel_rfl
theorem mayZ (w : World) : Calls Try.prog 10 #[.agg (zTab.cells zHd).toArray] w fun e w' => e = .returned (.bool true) ∧ Below w.heap.size w w' := by
  have := May.may_any zTab zHd w (z_is w)
  rwa [z_may] at this
theorem mayO (w : World) : Calls Try.prog 10 #[.agg (oTab.cells zHd).toArray] w fun e w' => e = .returned (.bool false) ∧ Below w.heap.size w w' := by
  have := May.may_any oTab zHd w (o_is w)
  rwa [o_may] at this
theorem sameO (w : World) (k : Hd) (h : IsTab w k oTab) : Calls Try.prog 8 #[.agg (oTab.cells zHd).toArray, .agg (oTab.cells k).toArray] w fun e w' => e = .returned (.bool true) ∧ Below w.heap.size w w' := by
  have := Same.same_any oTab oTab zHd k w (o_is w) h
  rwa [decide_eq_true rfl] at this
set_option maxRecDepth 10000 in
set_option maxHeartbeats 4000000 in
theorem awake_any (w : World) : Calls Try.prog 7 #[] w fun e w' => e = .returned (.bool true) ∧ Below w.heap.size w w' := by
  have hz := (zero_of_info info31).1
  have hzs : (zTab.cells zHd).toArray.size = 131 := (cells_ok (z_is w)).size
  have hos : (oTab.cells zHd).toArray.size = 131 := (cells_ok (o_is w)).size
  have HZS := Lib.hid hzs
  have HOS := Lib.hid hos
  clear hzs hos
  have HB := Lib.hid built31
  have MZ := Lib.hid mayZ
  have MO := Lib.hid mayO
  have SO := Lib.hid sameO
  have CO := Lib.hid (fun w => clone_any oTab zHd w (o_is w) o_small)
  have HC := Lib.hid o_cells
  have h129 : (zTab.cells zHd)[129]? = some (.int .i64 0) := rfl
  have H129 := Lib.hid h129
  clear h129
  generalize hZ : zTab.cells zHd = Z at hz HZS HB MZ HC H129
  generalize hO : oTab.cells zHd = O at HOS MO SO CO HC
  clear hZ hO
  go_enter Try.func7, Try.ntmps7
  go_upto_region 2 with fail
  have o0 : Own w.heap.size (w.alloc (.cells Z.toArray 31)) [⟨w.heap.size, Z, 31⟩] := by
    refine ⟨by simp, fun x hx => ?_⟩
    simp only [List.mem_cons, List.not_mem_nil, or_false] at hx
    subst hx
    exact ⟨Nat.le_refl _, heap_alloc_new w _⟩
  have O0 := Lib.hid o0
  have B0 : Hid (Below w.heap.size w (w.alloc (.cells Z.toArray 31))) := (Below.refl _ _).alloc (Nat.le_refl _) _
  clear o0 hz
  generalize w.alloc (.cells Z.toArray 31) = w1 at O0 B0 ⊢
  have c129 : w1.cell? ⟨w.heap.size, 129, none⟩ = some (.int .i64 0) := by
    rw [O0.out.cell (x := ⟨w.heap.size, Z, 31⟩) (List.mem_cons_self ..)]; exact H129.out
  have f129 : w1.frozen? ⟨w.heap.size, 129, none⟩ = false := O0.out.frozen (x := ⟨w.heap.size, Z, 31⟩) (List.mem_cons_self ..) 129
  go_upto_region 3 with fail
  have q1 := O0.out.cell_at (i := 0) (x := ⟨w.heap.size, Z, 31⟩) rfl 129 (.int .i64 (-1))
  have E1 := Lib.hid (below_write B0.out (Nat.le_refl _) (i := 129) (.int .i64 (-1)))
  dsimp only [List.set_cons_succ, List.set_cons_zero] at q1
  rw [HC.out] at q1
  have Q1 := Lib.hid q1
  clear q1 c129 f129 O0 B0
  generalize World.setCell w1 _ _ = w2 at Q1 E1 ⊢
  have L1 : Hid (∀ w', Below w2.heap.size w2 w' → Lies w' ⟨w.heap.size, 0, none⟩ O) := fun w' hb => by
    have := Row.lies_of_block ((Q1.out.step hb).get (x := ⟨w.heap.size, O, 31⟩) (List.mem_cons_self ..))
    simpa using this
  refine wp_region_held (S := fun w' => Below w2.heap.size w2 w') (by kernel_rfl) ?_
  have hS : Below w2.heap.size w2 { w2 with drawn := w2.drawn + 1 } := (Below.refl _ _).drew
  generalize ({ w2 with drawn := w2.drawn + 1 } : World) = w3 at hS ⊢
  refine Held.take_build (i := 0) (some 3) rfl 31 _ Z.toArray rfl rfl (by kernel_rfl) (by kernel_rfl) (by kernel_rfl) (fun _ _ _ h => h) (by rfl) hS (by simpa using HB.out) ?_
  (try dsimp only [Act.put])
  (try simp only [List.setIfInBounds_toArray, List.set_cons_zero, List.set_cons_succ])
  refine wpAnyH_ready (rs := [1]) (by kernel_rfl) (by simp) (AllReadyH.cons rfl (fun K hK => ?_) AllReadyH.nil)
  go_simp
  refine (MZ.out _).mono ?_
  rintro e w4 ⟨rfl, hb⟩
  go_simp
  refine hK.out _ _ (Below.trans hS (hb.mono hS.size)) (fun hS => ?_)
  clear hK K
  refine Held.take (i := 2) (some 5) rfl (v := ?_) rfl (by kernel_rfl) (by kernel_rfl) (by kernel_rfl) (fun _ _ _ h => h) (Or.inl ⟨by rfl, ?_⟩) hS ?_
  rotate_left
  · intro w' hw'
    go_simp
    try with_reducible rfl
  (try dsimp only [Act.put])
  (try simp only [List.setIfInBounds_toArray, List.set_cons_zero, List.set_cons_succ])
  refine Held.take_load (i := 3) (some 6) rfl 31 _ ⟨w.heap.size, 0, none⟩ O _ rfl rfl (by kernel_rfl) (by kernel_rfl) (by kernel_rfl) (fun _ _ _ h => h) (by rfl) hS rfl (L1.out) Try.underlying31 rfl (by rw [show O.length = 131 from HOS.out]; exact infoT) ?_
  (try dsimp only [Act.put])
  (try simp only [List.setIfInBounds_toArray, List.set_cons_zero, List.set_cons_succ])
  refine wpAnyH_ready (rs := [4]) (by kernel_rfl) (by simp) (AllReadyH.cons rfl (fun K hK => ?_) AllReadyH.nil)
  go_simp
  refine (MO.out _).mono ?_
  rintro e w5 ⟨rfl, hb⟩
  go_simp
  refine hK.out _ _ (Below.trans hS (hb.mono hS.size)) (fun hS => ?_)
  clear hK K
  refine Held.take (i := 5) (some 8) rfl (v := ?_) rfl (by kernel_rfl) (by kernel_rfl) (by kernel_rfl) (fun _ _ _ h => h) (Or.inl ⟨by rfl, ?_⟩) hS ?_
  rotate_left
  · intro w' hw'
    go_simp
    try with_reducible rfl
  (try dsimp only [Act.put])
  (try simp only [List.setIfInBounds_toArray, List.set_cons_zero, List.set_cons_succ])
  refine Held.take (i := 6) (some 9) rfl (v := ?_) rfl (by kernel_rfl) (by kernel_rfl) (by kernel_rfl) (fun _ _ _ h => h) (Or.inl ⟨by rfl, ?_⟩) hS ?_
  rotate_left
  · intro w' hw'
    go_simp
    try with_reducible rfl
  (try dsimp only [Act.put])
  (try simp only [List.setIfInBounds_toArray, List.set_cons_zero, List.set_cons_succ])
  refine Held.take (i := 7) (some 10) rfl (v := ?_) rfl (by kernel_rfl) (by kernel_rfl) (by kernel_rfl) (fun _ _ _ h => h) (Or.inl ⟨by rfl, ?_⟩) hS ?_
  rotate_left
  · intro w' hw'
    go_simp
    try with_reducible rfl
  (try dsimp only [Act.put])
  (try simp only [List.setIfInBounds_toArray, List.set_cons_zero, List.set_cons_succ])
  refine Held.take_load (i := 8) (some 11) rfl 31 _ ⟨w.heap.size, 0, none⟩ O _ rfl rfl (by kernel_rfl) (by kernel_rfl) (by kernel_rfl) (fun _ _ _ h => h) (by rfl) hS rfl (L1.out) Try.underlying31 rfl (by rw [show O.length = 131 from HOS.out]; exact infoT) ?_
  (try dsimp only [Act.put])
  (try simp only [List.setIfInBounds_toArray, List.set_cons_zero, List.set_cons_succ])
  refine Held.take_load (i := 9) (some 12) rfl 31 _ ⟨w.heap.size, 0, none⟩ O _ rfl rfl (by kernel_rfl) (by kernel_rfl) (by kernel_rfl) (fun _ _ _ h => h) (by rfl) hS rfl (L1.out) Try.underlying31 rfl (by rw [show O.length = 131 from HOS.out]; exact infoT) ?_
  (try dsimp only [Act.put])
  (try simp only [List.setIfInBounds_toArray, List.set_cons_zero, List.set_cons_succ])
  refine wpAnyH_ready (rs := [10]) (by kernel_rfl) (by simp) (AllReadyH.cons rfl (fun K hK => ?_) AllReadyH.nil)
  go_simp
  refine (CO.out _).mono ?_
  rintro e w6 ⟨ns, G, D, R, T, rfl, hnd, hown, hb⟩
  have hk := is_tab rfl rfl rfl o_small hnd hown
  go_simp
  refine hK.out _ _ (Below.trans hS (hb.mono hS.size)) (fun hS => ?_)
  clear hK K
  refine wpAnyH_ready (rs := [11]) (by kernel_rfl) (by simp) (AllReadyH.cons rfl (fun K hK => ?_) AllReadyH.nil)
  go_simp
  refine (SO.out _ _ hk).mono ?_
  rintro e w7 ⟨rfl, hb⟩
  go_simp
  refine hK.out _ _ (Below.trans hS (hb.mono hS.size)) (fun hS => ?_)
  clear hK K
  refine Held.take (i := 12) (some 15) rfl (v := ?_) rfl (by kernel_rfl) (by kernel_rfl) (by kernel_rfl) (fun _ _ _ h => h) (Or.inl ⟨by rfl, ?_⟩) hS ?_
  rotate_left
  · intro w' hw'
    go_simp
    try with_reducible rfl
  (try dsimp only [Act.put])
  (try simp only [List.setIfInBounds_toArray, List.set_cons_zero, List.set_cons_succ])
  refine Held.take (i := 13) (some 0) rfl (v := ?_) rfl (by kernel_rfl) (by kernel_rfl) (by kernel_rfl) (fun _ _ _ h => h) (Or.inl ⟨by rfl, ?_⟩) hS ?_
  rotate_left
  · intro w' hw'
    go_simp
    try with_reducible rfl
  (try dsimp only [Act.put])
  (try simp only [List.setIfInBounds_toArray, List.set_cons_zero, List.set_cons_succ])
  refine wpAnyH_done (by kernel_rfl) ?_ _
  have HF := Lib.hid (Below.trans E1.out (Below.mono hS E1.out.size))
  clear hS
  go_wp2
  go_ret
  exact ⟨rfl, HF.out⟩
end Go.Proofs.Ytpofccenoobojaa.Wa
