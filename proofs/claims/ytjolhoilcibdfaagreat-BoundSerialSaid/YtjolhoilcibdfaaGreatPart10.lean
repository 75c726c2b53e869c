/- 17 texts in one file, in build order. -/
import Derived.Test.YtjolhoilcibdfaaGreatRows
import Derived.Test.YtjolhoilcibdfaaGreatPart09
import Derived.Test.YtjolhoilcibdfaaGreatPart06
import Derived.Test.YtjolhoilcibdfaaGreatPart05
import Derived.Test.YtjolhoilcibdfaaGreatPart08
import Derived.Deep.Cut
import Derived.Test.YtjolhoilcibdfaaGreatPart01
import Derived.Test.YtjolhoilcibdfaaGreatPart02
import Derived.Test.YtjolhoilcibdfaaGreatPart03
set_option linter.unusedVariables false
set_option linter.unusedSimpArgs false
set_option linter.unusedSectionVars false
/- Two functions of package slices, over numbers. -/
namespace Go.Proofs.YtjolhoilcibdfaaGreat.BdI
open Go.ChangeShapes Go.WideShapes Go.ChangeAt Go.RowKit
open Tab Gath OnS RefC Clear
open May (St phases_in infoP infoT row_new)
set_option linter.unusedVariables false
set_option linter.unusedSimpArgs false
open BdS BdB
set_option maxHeartbeats 800000 in
theorem index_any (a : Option Addr) (cap : Nat) (L : List Int) (n : Nat) (hn : L.length = n) (w : World) (h : IntRow w ⟨a, cap⟩ L) :
    Calls Tryz.prog 105 #[.slice a n cap, .func (.func 106) #[] #[]] w fun e w' => e = .returned (.int .i64 (idxF L)) ∧ w = w' := by
  subst hn
  have hl := h.len
  unfold maxLen at hl
  have HF : Hid (∀ (k : Nat) v, (∀ x ∈ L.take k, full x = false) → L[k]? = some v → full v = true → idxF L = k) := Lib.hid (fun k v h1 h2 h3 => idx_at h1 h2 h3)
  have HN : Hid ((∀ x ∈ L, full x = false) → idxF L = -1) := Lib.hid idx_none
  generalize idxF L = res at *
  go_enter Tryz.func105, Tryz.ntmps105
  go_wp2
  go_loop [8] (fun i => ∃ k : Nat, k ≤ L.length ∧ i = .int .i64 k ∧ ∀ x ∈ L.take k, full x = false) (fun i => L.length - (intOf i).toNat)
  case atStart => exact ⟨0, Nat.zero_le _, rfl, by simp⟩
  case round =>
    obtain ⟨k, hk, rfl, hno⟩ := hrel
    have HNO := Lib.hid hno
    clear hno
    by_cases hlt : k < L.length
    · have hv := List.getElem?_eq_getElem hlt
      generalize L[k] = v at hv
      obtain ⟨x, hx, hc⟩ := IntRow.at h hv
      obtain rfl : a = some x := hx
      have HV := Lib.hid hv
      clear hv
      go_wp2_with fail
      refine (full_any v _).mono ?_
      rintro e w' ⟨rfl, rfl⟩
      cases hf : full v with
      | true =>
        have HR : Hid ((k : Int) = res) := Lib.hid (HF.out k v HNO.out HV.out hf).symm
        clear hf
        go_wp2
        go_ret
        exact ⟨RefC.ret_int HR.out, rfl⟩
      | false =>
        have HT := Lib.hid (take_all HNO.out HV.out hf)
        clear hf
        go_wp2
        go_round
        case rel => exact ⟨k + 1, by omega, by go_num, HT.out⟩
        case measure => simp [intOf]; omega
    · obtain rfl : k = L.length := by omega
      have HR : Hid (-1 = res) := Lib.hid (HN.out (by have := HNO.out; rwa [List.take_length] at this)).symm
      go_wp2
      go_ret
      exact ⟨RefC.ret_int HR.out, rfl⟩
theorem mx (m v : Int) : Value.int IntKind.i64 (if m < v then v else m) = Value.int IntKind.i64 (max m v) := by
  congr 1
  split <;> omega
theorem most_step {L : List Int} {k : Nat} {v : Int} (hv : L[k]? = some v) : mosts (L.take (k + 1)) = max (mosts (L.take k)) v := by
  rw [PlaceM.take_succ hv, BdM.mosts_snoc]
theorem most_one {L : List Int} {v : Int} (hv : L[0]? = some v) (h0 : 0 ≤ v) : mosts (L.take 1) = v := by
  rw [show (1 : Nat) = 0 + 1 from rfl, most_step hv, List.take_zero, BdM.mosts_nil]; omega
set_option maxHeartbeats 800000 in
theorem max_any (a : Option Addr) (cap : Nat) (L : List Int) (n : Nat) (hn : L.length = n) (h1 : 1 ≤ n) (h0 : ∀ x ∈ L, 0 ≤ x) (w : World) (h : IntRow w ⟨a, cap⟩ L) :
    Calls Tryz.prog 107 #[.slice a n cap] w fun e w' => e = .returned (.int .i64 (mosts L)) ∧ w = w' := by
  subst hn
  have hl := h.len
  unfold maxLen at hl
  have HS : Hid (∀ (k : Nat) v, L[k]? = some v → mosts (L.take (k + 1)) = max (mosts (L.take k)) v) := Lib.hid (fun k v hv => most_step hv)
  have v0 := List.getElem?_eq_getElem (show 0 < L.length by omega)
  have HO := Lib.hid (most_one v0 (h0 _ (List.getElem_mem _)))
  generalize L[0]'(by omega) = y at v0 HO
  obtain ⟨x, hx, hc0⟩ := IntRow.at h v0
  obtain rfl : a = some x := hx
  rw [add_zero] at hc0
  have hp : (decide ((L.length : Int) < 1)) = false := by simp; omega
  have HL : Hid (mosts (L.take L.length) = mosts L) := Lib.hid (by rw [List.take_length])
  generalize mosts L = res at HL ⊢
  clear v0 h0
  go_enter Tryz.func107, Tryz.ntmps107
  go_wp2
  go_loop [3, 4] (fun m i => ∃ k : Nat, 1 ≤ k ∧ k ≤ L.length ∧ i = .int .i64 k ∧ m = .int .i64 (mosts (L.take k))) (fun _ i => L.length - (intOf i).toNat)
  case atStart => exact ⟨1, Nat.le_refl _, h1, rfl, by rw [HO.out]⟩
  case round =>
    obtain ⟨k, hk1, hk, rfl, rfl⟩ := hrel
    by_cases hlt : k < L.length
    · have hv := List.getElem?_eq_getElem hlt
      generalize L[k] = v at hv
      obtain ⟨x', hx, hc⟩ := IntRow.at h hv
      obtain rfl := Option.some.inj hx
      have HV := Lib.hid (HS.out k v hv)
      clear hv
      generalize mosts (L.take k) = m at *
      go_wp2
      go_round
      case rel => exact ⟨k + 1, by omega, by omega, by go_num, by rw [HV.out]; exact mx m v⟩
      case measure => simp [intOf]; omega
    · obtain rfl : k = L.length := by omega
      rw [HL.out]
      go_wp2
      go_ret
      exact ⟨rfl, rfl⟩
end Go.Proofs.YtjolhoilcibdfaaGreat.BdI
/- The contract of package bound's fault: the first bound that is Full, or a window that is too small. -/
namespace Go.Proofs.YtjolhoilcibdfaaGreat.BdT
open Go.ChangeShapes Go.WideShapes Go.ChangeAt Go.RowKit
open Tab Gath OnS RefC Clear
open May (St phases_in infoP infoT row_new)
set_option linter.unusedVariables false
set_option linter.unusedSimpArgs false
open BdB BdN BdI ChkM PlaceM
def faultG (T : Tab) (wl el : List Int) : Int × Int := if 0 ≤ idxF wl then (14, idxF wl) else if 0 ≤ idxF el then (14, idxF el) else if 0 < T.rails.length ∧ T.window < mosts wl then (15, 0) else (0, 0)
set_option maxRecDepth 100000 in
set_option maxHeartbeats 8000000 in
theorem pfault_any (T : Tab) (h : Hd) (wl el : List Int) (w : World) (ht : IsTab w h T) (h8 : wl.length = 8) (h4 : el.length = 4) (h0 : ∀ x ∈ wl, 0 ≤ x) :
    Calls Tryz.prog 70 #[.agg (T.cells h).toArray, .agg (bcells wl el)] w fun e w' => e = .returned (.agg (fcells (faultG T wl el))) ∧ Below w.heap.size w w' := by
  have C := Lib.hid (cells_ok ht)
  have hsz := C.out.size
  have q114 := C.out.r
  have q129 := C.out.window
  obtain ⟨sg, sd, ⟨ra, rcap⟩, sb⟩ := h
  clear C
  have ST := Lib.hid (laid3 w (T.cells ⟨sg, sd, ⟨ra, rcap⟩, sb⟩).toArray (bcells wl el) #[I 0, I 0] 32 65 37)
  clear ht
  generalize T.cells _ = c at *
  have RA : Hid (∀ u, Bks w [(w.heap.size + 2, #[I 0, I 0], 37), (w.heap.size + 1, bcells wl el, 65), (w.heap.size, c.toArray, 32)] u → IntRow u ⟨some ⟨w.heap.size + 1, 0, none⟩, 8⟩ wl) := Lib.hid (fun u hu => by
    have := row_A (hu.blk (w.heap.size + 1, bcells wl el, 65) (by simp)) (by rw [h8]; decide)
    rwa [h8] at this)
  have RE : Hid (∀ u, Bks w [(w.heap.size + 2, #[I 0, I 0], 37), (w.heap.size + 1, bcells wl el, 65), (w.heap.size, c.toArray, 32)] u → IntRow u ⟨some ⟨w.heap.size + 1, 8, none⟩, 4⟩ el) := Lib.hid (fun u hu => by
    have := row_E (hu.blk (w.heap.size + 1, bcells wl el, 65) (by simp)) (by rw [h4]; decide)
    rwa [h8, h4] at this)
  have RS : Hid (faultG T wl el = if 0 ≤ idxF wl then (14, idxF wl) else if 0 ≤ idxF el then (14, idxF el) else if 0 < T.rails.length ∧ T.window < mosts wl then (15, 0) else (0, 0)) := Lib.hid rfl
  generalize faultG T wl el = res at RS ⊢
  generalize T.rails.length = n at *
  generalize T.window = wd at *
  have HX := Lib.hid (index_any (some ⟨w.heap.size + 1, 0, none⟩) 8 wl 8 h8)
  have HY := Lib.hid (index_any (some ⟨w.heap.size + 1, 8, none⟩) 4 el 4 h4)
  have HM := Lib.hid (max_any (some ⟨w.heap.size + 1, 0, none⟩) 8 wl 8 h8 (by decide) h0)
  generalize idxF wl = i1 at RS HX
  generalize idxF el = i2 at RS HY
  generalize mosts wl = mw at RS HM
  clear h8 h4 h0
  generalize bcells wl el = bc at *
  go_enter Tryz.func70, Tryz.ntmps70
  go_upto_region 1 with fail
  generalize ((w.alloc (.cells c.toArray 32)).alloc (.cells bc 65)).alloc (.cells #[I 0, I 0] 37) = w1 at ST ⊢
  have QR : Hid (∀ u, Below w1.heap.size w1 u → u.cell? ⟨w.heap.size, 114, none⟩ = some (.slice ra n rcap)) := Lib.hid (fun u hu => bks_cell (ST.out.step hu) (x := (w.heap.size, c.toArray, 32)) (by simp) q114)
  have QW : Hid (∀ u, Below w1.heap.size w1 u → u.cell? ⟨w.heap.size, 129, none⟩ = some (I wd)) := Lib.hid (fun u hu => bks_cell (ST.out.step hu) (x := (w.heap.size, c.toArray, 32)) (by simp) q129)
  have K2 : Hid (w1.heap[w.heap.size + 2]? = some (.cells #[I 0, I 0] 37 (0, 0))) := Lib.hid (ST.out.blk (w.heap.size + 2, #[I 0, I 0], 37) (by simp))
  have B1 := Lib.hid ST.out.bel
  have HX1 := Lib.hid (HX.out _ (RA.out _ ST.out))
  have HY1 := Lib.hid (HY.out _ (RE.out _ ST.out))
  have HM1 : Hid (∀ u, Below w1.heap.size w1 u → Calls Tryz.prog 107 #[.slice (some ⟨w.heap.size + 1, 0, none⟩) (8 : Nat) 8] u fun e w' => e = .returned (.int .i64 mw) ∧ u = w') := Lib.hid (fun u hu => HM.out u (RA.out _ (ST.out.step hu)))
  clear q114 q129 ST HX HY HM RA RE hsz
  go_wp2_with fail
  refine HX1.out.mono ?_
  rintro e w' ⟨rfl, rfl⟩
  by_cases hi1 : 0 ≤ i1
  · have RR : Hid ((14, i1) = res) := Lib.hid (by rw [RS.out, if_pos hi1])
    clear RS HX1 HY1 HM1 QR QW
    have HW := Lib.hid (Same.below_setRow B1.out (g := w.heap.size + 2) (by omega) #[I 14, I i1])
    have HK := Lib.hid (setRow_heap w1 (w.heap.size + 2) _ #[I 14, I i1] _ _ K2.out)
    go_wp2_with (first | (refine wpList_store_row rfl 37 _ _ rfl (w.heap.size + 2) #[I 14, I i1] rfl rfl 37 _ K2.out infoF rfl (by simp [Value.oneCell']) ?_))
    generalize w1.setRow (w.heap.size + 2) #[I 14, I i1] = uz at HW HK ⊢
    (try go_wp2_with fail)
    (try simp only [Exit.inBlock, Exit.then])
    refine bodyPost_ret (v := .agg #[I 14, I i1]) ?_ rfl ⟨by rw [← RR.out]; rfl, HW.out⟩
    exact results_cell_row rfl _ _ (w.heap.size + 2) 37 _ (0, 0) _ rfl HK.out Tryz.underlying37 rfl infoF
  go_wp2_with fail
  refine HY1.out.mono ?_
  rintro e w' ⟨rfl, rfl⟩
  by_cases hi2 : 0 ≤ i2
  · have RR : Hid ((14, i2) = res) := Lib.hid (by rw [RS.out, if_neg (by omega), if_pos hi2])
    clear RS HX1 HY1 HM1 QR QW
    have HW := Lib.hid (Same.below_setRow B1.out (g := w.heap.size + 2) (by omega) #[I 14, I i2])
    have HK := Lib.hid (setRow_heap w1 (w.heap.size + 2) _ #[I 14, I i2] _ _ K2.out)
    go_wp2_with (first | (refine wpList_store_row rfl 37 _ _ rfl (w.heap.size + 2) #[I 14, I i2] rfl rfl 37 _ K2.out infoF rfl (by simp [Value.oneCell']) ?_))
    generalize w1.setRow (w.heap.size + 2) #[I 14, I i2] = uz at HW HK ⊢
    (try go_wp2_with fail)
    (try simp only [Exit.inBlock, Exit.then])
    refine bodyPost_ret (v := .agg #[I 14, I i2]) ?_ rfl ⟨by rw [← RR.out]; rfl, HW.out⟩
    exact results_cell_row rfl _ _ (w.heap.size + 2) 37 _ (0, 0) _ rfl HK.out Tryz.underlying37 rfl infoF
  have RS2 : Hid (res = if 0 < n ∧ wd < mw then (15, 0) else (0, 0)) := Lib.hid (by rw [RS.out, if_neg (by omega), if_neg (by omega)])
  clear RS HX1 HY1
  go_upto_region 7 with fail
  clear hi1 hi2
  by_cases hn : n = 0
  · have RR : Hid ((0, 0) = res) := Lib.hid (by rw [RS2.out, if_neg (by omega)])
    subst hn
    clear RS2
    refine wp_region_held (S := fun w' => Below w1.heap.size w1 w') (by kernel_rfl) ?_
    have hS : Below w1.heap.size w1 { w1 with drawn := w1.drawn + 1 } := (Below.refl _ _).drew
    generalize ({ w1 with drawn := w1.drawn + 1 } : World) = v at hS ⊢
    refine Held.take (i := 0) (some 21) rfl (v := ?_) rfl (by kernel_rfl) (by kernel_rfl) (by kernel_rfl) (fun _ _ _ h => h) (Or.inl ⟨by rfl, ?_⟩) hS ?_
    rotate_left
    · intro w' hw'
      go_simp
      try with_reducible rfl
    (try dsimp only [Act.put]); (try simp only [List.setIfInBounds_toArray, List.set_cons_zero, List.set_cons_succ])
    refine Held.take (i := 1) (some 22) rfl (v := ?_) rfl (by kernel_rfl) (by kernel_rfl) (by kernel_rfl) (fun _ _ _ h => h) (Or.inl ⟨by rfl, ?_⟩) hS ?_
    rotate_left
    · intro w' hw'
      have cf := QR.out w' hw'
      go_simp
      try with_reducible rfl
    (try dsimp only [Act.put]); (try simp only [List.setIfInBounds_toArray, List.set_cons_zero, List.set_cons_succ])
    refine Held.take (i := 2) (some 23) rfl (v := ?_) rfl (by kernel_rfl) (by kernel_rfl) (by kernel_rfl) (fun _ _ _ h => h) (Or.inl ⟨by rfl, ?_⟩) hS ?_
    rotate_left
    · intro w' hw'
      go_simp
      try with_reducible rfl
    (try dsimp only [Act.put]); (try simp only [List.setIfInBounds_toArray, List.set_cons_zero, List.set_cons_succ])
    refine Held.take (i := 3) (some 24) rfl (v := .bool false) rfl (by kernel_rfl) (by kernel_rfl) (by kernel_rfl) (fun _ _ _ h => h) (Or.inl ⟨by rfl, ?_⟩) hS ?_
    · intro w' hw'
      go_simp
      try with_reducible rfl
    (try dsimp only [Act.put]); (try simp only [List.setIfInBounds_toArray, List.set_cons_zero, List.set_cons_succ])
    refine Held.take (i := 4) (some 25) rfl (v := .bool false) rfl (by kernel_rfl) (by kernel_rfl) (by kernel_rfl) (fun _ _ _ h => h) (Or.inl ⟨by rfl, ?_⟩) hS ?_
    · intro w' hw'
      go_simp
      try with_reducible rfl
    (try dsimp only [Act.put]); (try simp only [List.setIfInBounds_toArray, List.set_cons_zero, List.set_cons_succ])
    refine Held.take_skip (i := 5) (some 26) rfl rfl (by kernel_rfl) (by kernel_rfl) (by kernel_rfl) (fun _ _ _ h => h) (by rfl) hS ?_
    (try dsimp only [Act.put]); (try simp only [List.setIfInBounds_toArray, List.set_cons_zero, List.set_cons_succ])
    refine Held.take_skip (i := 6) (some 27) rfl rfl (by kernel_rfl) (by kernel_rfl) (by kernel_rfl) (fun _ _ _ h => h) (by rfl) hS ?_
    (try dsimp only [Act.put]); (try simp only [List.setIfInBounds_toArray, List.set_cons_zero, List.set_cons_succ])
    refine Held.take_skip (i := 7) (some 28) rfl rfl (by kernel_rfl) (by kernel_rfl) (by kernel_rfl) (fun _ _ _ h => h) (by rfl) hS ?_
    (try dsimp only [Act.put]); (try simp only [List.setIfInBounds_toArray, List.set_cons_zero, List.set_cons_succ])
    refine Held.take_skip (i := 8) (some 29) rfl rfl (by kernel_rfl) (by kernel_rfl) (by kernel_rfl) (fun _ _ _ h => h) (by rfl) hS ?_
    (try dsimp only [Act.put]); (try simp only [List.setIfInBounds_toArray, List.set_cons_zero, List.set_cons_succ])
    refine Held.take_skip (i := 9) (some 30) rfl rfl (by kernel_rfl) (by kernel_rfl) (by kernel_rfl) (fun _ _ _ h => h) (by rfl) hS ?_
    (try dsimp only [Act.put]); (try simp only [List.setIfInBounds_toArray, List.set_cons_zero, List.set_cons_succ])
    refine Held.take_skip (i := 10) (some 31) rfl rfl (by kernel_rfl) (by kernel_rfl) (by kernel_rfl) (fun _ _ _ h => h) (by rfl) hS ?_
    (try dsimp only [Act.put]); (try simp only [List.setIfInBounds_toArray, List.set_cons_zero, List.set_cons_succ])
    refine Held.take (i := 11) (some 32) rfl (v := ?_) rfl (by kernel_rfl) (by kernel_rfl) (by kernel_rfl) (fun _ _ _ h => h) (Or.inl ⟨by rfl, ?_⟩) hS ?_
    rotate_left
    · intro w' hw'
      go_simp
      try with_reducible rfl
    (try dsimp only [Act.put]); (try simp only [List.setIfInBounds_toArray, List.set_cons_zero, List.set_cons_succ])
    refine wpAnyH_done (by kernel_rfl) ?_ _
    have D2 : Hid (v.heap[w.heap.size + 2]? = some (.cells #[I 0, I 0] 37 (0, 0))) := Lib.hid ((hS.block _ (Array.getElem?_eq_some_iff.1 K2.out).1).trans K2.out)
    have BF := Lib.hid (B1.out.trans (hS.mono B1.out.size))
    clear hS
    have HW := Lib.hid (Same.below_setRow BF.out (g := w.heap.size + 2) (by omega) #[I 0, I 0])
    have HK := Lib.hid (setRow_heap v (w.heap.size + 2) _ #[I 0, I 0] _ _ D2.out)
    go_wp2_with (first | (refine wpList_store_row rfl 37 _ _ rfl (w.heap.size + 2) #[I 0, I 0] rfl rfl 37 _ D2.out infoF rfl (by simp [Value.oneCell']) ?_))
    generalize v.setRow (w.heap.size + 2) #[I 0, I 0] = uz at HW HK ⊢
    (try go_wp2_with fail)
    (try simp only [Exit.inBlock, Exit.then])
    refine bodyPost_ret (v := .agg #[I 0, I 0]) ?_ rfl ⟨by rw [← RR.out]; rfl, HW.out⟩
    exact results_cell_row rfl _ _ (w.heap.size + 2) 37 _ (0, 0) _ rfl HK.out Tryz.underlying37 rfl infoF
  · have hg : (decide ((n : Int) > 0)) = true := by simp; omega
    have NP := Lib.hid (Nat.pos_of_ne_zero hn)
    clear hn
    refine wp_region_held (S := fun w' => Below w1.heap.size w1 w') (by kernel_rfl) ?_
    have hS : Below w1.heap.size w1 { w1 with drawn := w1.drawn + 1 } := (Below.refl _ _).drew
    generalize ({ w1 with drawn := w1.drawn + 1 } : World) = v at hS ⊢
    refine Held.take (i := 0) (some 21) rfl (v := ?_) rfl (by kernel_rfl) (by kernel_rfl) (by kernel_rfl) (fun _ _ _ h => h) (Or.inl ⟨by rfl, ?_⟩) hS ?_
    rotate_left
    · intro w' hw'
      go_simp
      try with_reducible rfl
    (try dsimp only [Act.put]); (try simp only [List.setIfInBounds_toArray, List.set_cons_zero, List.set_cons_succ])
    refine Held.take (i := 1) (some 22) rfl (v := ?_) rfl (by kernel_rfl) (by kernel_rfl) (by kernel_rfl) (fun _ _ _ h => h) (Or.inl ⟨by rfl, ?_⟩) hS ?_
    rotate_left
    · intro w' hw'
      have cf := QR.out w' hw'
      go_simp
      try with_reducible rfl
    (try dsimp only [Act.put]); (try simp only [List.setIfInBounds_toArray, List.set_cons_zero, List.set_cons_succ])
    refine Held.take (i := 2) (some 23) rfl (v := ?_) rfl (by kernel_rfl) (by kernel_rfl) (by kernel_rfl) (fun _ _ _ h => h) (Or.inl ⟨by rfl, ?_⟩) hS ?_
    rotate_left
    · intro w' hw'
      go_simp
      try with_reducible rfl
    (try dsimp only [Act.put]); (try simp only [List.setIfInBounds_toArray, List.set_cons_zero, List.set_cons_succ])
    refine Held.take (i := 3) (some 24) rfl (v := .bool true) rfl (by kernel_rfl) (by kernel_rfl) (by kernel_rfl) (fun _ _ _ h => h) (Or.inl ⟨by rfl, ?_⟩) hS ?_
    · intro w' hw'
      have cf := NP.out
      go_simp
      try omega
      try with_reducible rfl
    (try dsimp only [Act.put]); (try simp only [List.setIfInBounds_toArray, List.set_cons_zero, List.set_cons_succ])
    refine Held.take (i := 4) (some 25) rfl (v := .bool true) rfl (by kernel_rfl) (by kernel_rfl) (by kernel_rfl) (fun _ _ _ h => h) (Or.inl ⟨by rfl, ?_⟩) hS ?_
    · intro w' hw'
      go_simp
      try with_reducible rfl
    (try dsimp only [Act.put]); (try simp only [List.setIfInBounds_toArray, List.set_cons_zero, List.set_cons_succ])
    refine Held.take (i := 5) (some 26) rfl (v := ?_) rfl (by kernel_rfl) (by kernel_rfl) (by kernel_rfl) (fun _ _ _ h => h) (Or.inl ⟨by rfl, ?_⟩) hS ?_
    rotate_left
    · intro w' hw'
      go_simp
      try with_reducible rfl
    (try dsimp only [Act.put]); (try simp only [List.setIfInBounds_toArray, List.set_cons_zero, List.set_cons_succ])
    refine Held.take (i := 6) (some 27) rfl (v := ?_) rfl (by kernel_rfl) (by kernel_rfl) (by kernel_rfl) (fun _ _ _ h => h) (Or.inl ⟨by rfl, ?_⟩) hS ?_
    rotate_left
    · intro w' hw'
      have cf := QW.out w' hw'
      go_simp
      try with_reducible rfl
    (try dsimp only [Act.put]); (try simp only [List.setIfInBounds_toArray, List.set_cons_zero, List.set_cons_succ])
    refine Held.take (i := 7) (some 28) rfl (v := ?_) rfl (by kernel_rfl) (by kernel_rfl) (by kernel_rfl) (fun _ _ _ h => h) (Or.inl ⟨by rfl, ?_⟩) hS ?_
    rotate_left
    · intro w' hw'
      go_simp
      try with_reducible rfl
    (try dsimp only [Act.put]); (try simp only [List.setIfInBounds_toArray, List.set_cons_zero, List.set_cons_succ])
    refine Held.take (i := 8) (some 29) rfl (v := ?_) rfl (by kernel_rfl) (by kernel_rfl) (by kernel_rfl) (fun _ _ _ h => h) (Or.inl ⟨by rfl, ?_⟩) hS ?_
    rotate_left
    · intro w' hw'
      go_simp
      try with_reducible rfl
    (try dsimp only [Act.put]); (try simp only [List.setIfInBounds_toArray, List.set_cons_zero, List.set_cons_succ])
    refine wpAnyH_ready (rs := [9]) (by kernel_rfl) (by simp) (AllReadyH.cons rfl (fun K hK => ?_) AllReadyH.nil)
    go_simp
    refine (HM1.out _ hS).mono ?_
    rintro e w' ⟨rfl, rfl⟩
    go_simp
    refine hK.out _ _ hS (fun hS => ?_)
    clear hK K
    refine Held.take (i := 10) (some 31) rfl (v := .bool (decide (wd < mw))) rfl (by kernel_rfl) (by kernel_rfl) (by kernel_rfl) (fun _ _ _ h => h) (Or.inl ⟨by rfl, ?_⟩) hS ?_
    · intro w' hw'
      go_simp
      try with_reducible rfl
    (try dsimp only [Act.put]); (try simp only [List.setIfInBounds_toArray, List.set_cons_zero, List.set_cons_succ])
    refine Held.take (i := 11) (some 32) rfl (v := ?_) rfl (by kernel_rfl) (by kernel_rfl) (by kernel_rfl) (fun _ _ _ h => h) (Or.inl ⟨by rfl, ?_⟩) hS ?_
    rotate_left
    · intro w' hw'
      go_simp
      try with_reducible rfl
    (try dsimp only [Act.put]); (try simp only [List.setIfInBounds_toArray, List.set_cons_zero, List.set_cons_succ])
    refine wpAnyH_done (by kernel_rfl) ?_ _
    have D2 : Hid (v.heap[w.heap.size + 2]? = some (.cells #[I 0, I 0] 37 (0, 0))) := Lib.hid ((hS.block _ (Array.getElem?_eq_some_iff.1 K2.out).1).trans K2.out)
    have BF := Lib.hid (B1.out.trans (hS.mono B1.out.size))
    clear hS hg
    by_cases hw : wd < mw
    · have RR : Hid ((15, 0) = res) := Lib.hid (by rw [RS2.out, if_pos ⟨NP.out, hw⟩])
      clear RS2
      have HW := Lib.hid (Same.below_setRow BF.out (g := w.heap.size + 2) (by omega) #[I 15, I 0])
      have HK := Lib.hid (setRow_heap v (w.heap.size + 2) _ #[I 15, I 0] _ _ D2.out)
      go_wp2_with (first | (refine wpList_store_row rfl 37 _ _ rfl (w.heap.size + 2) #[I 15, I 0] rfl rfl 37 _ D2.out infoF rfl (by simp [Value.oneCell']) ?_))
      generalize v.setRow (w.heap.size + 2) #[I 15, I 0] = uz at HW HK ⊢
      (try go_wp2_with fail)
      (try simp only [Exit.inBlock, Exit.then])
      refine bodyPost_ret (v := .agg #[I 15, I 0]) ?_ rfl ⟨by rw [← RR.out]; rfl, HW.out⟩
      exact results_cell_row rfl _ _ (w.heap.size + 2) 37 _ (0, 0) _ rfl HK.out Tryz.underlying37 rfl infoF
    · have RR : Hid ((0, 0) = res) := Lib.hid (by rw [RS2.out, if_neg (fun e => hw e.2)])
      clear RS2
      have HW := Lib.hid (Same.below_setRow BF.out (g := w.heap.size + 2) (by omega) #[I 0, I 0])
      have HK := Lib.hid (setRow_heap v (w.heap.size + 2) _ #[I 0, I 0] _ _ D2.out)
      go_wp2_with (first | (refine wpList_store_row rfl 37 _ _ rfl (w.heap.size + 2) #[I 0, I 0] rfl rfl 37 _ D2.out infoF rfl (by simp [Value.oneCell']) ?_))
      generalize v.setRow (w.heap.size + 2) #[I 0, I 0] = uz at HW HK ⊢
      (try go_wp2_with fail)
      (try simp only [Exit.inBlock, Exit.then])
      refine bodyPost_ret (v := .agg #[I 0, I 0]) ?_ rfl ⟨by rw [← RR.out]; rfl, HW.out⟩
      exact results_cell_row rfl _ _ (w.heap.size + 2) 37 _ (0, 0) _ rfl HK.out Tryz.underlying37 rfl infoF
end Go.Proofs.YtjolhoilcibdfaaGreat.BdT
/- The table by numbers: its phases stand once each, in order, and just those are On. No program in it. -/
namespace Go.Proofs.YtjolhoilcibdfaaGreat.GenT
open Go Tab GenG PlaceM OnS Clone
open RefS (num num_range)
set_option linter.unusedVariables false
set_option linter.unusedSimpArgs false
theorem seg_append (p a b : Nat) : seg p a ++ seg (p + a) b = seg p (a + b) := by
  induction b with
  | zero => simp [seg]
  | succ b ih => rw [seg_succ, ← List.append_assoc, ih, ← Nat.add_assoc, seg_succ, Nat.add_assoc]
theorem mem_seg {p m : Nat} {x : Int} : x ∈ seg p m ↔ (p : Int) ≤ x ∧ x < p + m := by
  unfold seg
  rw [List.mem_map]
  constructor
  · rintro ⟨i, hi, rfl⟩
    have := List.mem_range.1 hi
    omega
  · rintro ⟨h1, h2⟩
    exact ⟨(x - p).toNat, List.mem_range.2 (by omega), by omega⟩
theorem row_seg (g k : Nat) : ∀ (m i p : Nat), p + m ≤ 8 → (rowS g k i (seg p m)).map Spt.p = seg p m
  | 0, i, p, h => rfl
  | m + 1, i, p, h => by
    have e : seg p (m + 1) = (p : Int) :: seg (p + 1) m := by
      have := seg_append p 1 m
      rw [Nat.add_comm 1 m] at this
      rw [← this]
      simp [seg]
    rw [e, rowS, List.map_append, row_seg g k m (i + 1) (p + 1) (by omega), one, if_pos ⟨by omega, by omega⟩]
    rfl
theorem up_spots (L : List Int) (G : Nat) (hG : G ≤ 3) : ∀ g, g ≤ G → (allS 0 (upTo L G g).1).map Spt.p = seg 0 (upTo L G g).2
  | 0, _ => rfl
  | g + 1, h => by
    have h8 := up_le L G hG (g + 1) h
    have e2 : (upTo L G (g + 1)).2 = (upTo L G g).2 + n0 L G g (upTo L G g).2 + n1 L G g (upTo L G g).2 := rfl
    have e1 : (upTo L G (g + 1)).1 = (upTo L G g).1 ++ [grpD L G g (upTo L G g).2] := rfl
    rw [e1, allS_append, List.map_append, up_spots L G hG g (by omega)]
    rw [e2] at h8 ⊢
    simp only [allS, List.append_nil, grpS, grpD, List.map_append]
    rw [row_seg _ _ _ _ _ (by omega), row_seg _ _ _ _ _ (by omega), ← List.append_assoc]
    rw [show seg 0 (upTo L G g).2 ++ seg (upTo L G g).2 (n0 L G g (upTo L G g).2) = seg 0 ((upTo L G g).2 + n0 L G g (upTo L G g).2) from by have := seg_append 0 (upTo L G g).2 (n0 L G g (upTo L G g).2); rwa [Nat.zero_add] at this]
    have := seg_append 0 ((upTo L G g).2 + n0 L G g (upTo L G g).2) (n1 L G g (upTo L G g).2)
    rwa [Nat.zero_add] at this
theorem genTab_groups (L : List Int) : (genTab L).groups = genGs L := by
  unfold genTab; split <;> exact tabF_groups L
theorem genTab_phases (L : List Int) : (genTab L).phases = upd (fun p => GenP.genPh L (10 + 12 * p)) zPh (genN L) := by
  have h : (tabF L).phases = upd (fun p => GenP.genPh L (10 + 12 * p)) zPh (genN L) := by unfold tabF; split <;> rfl
  unfold genTab; split <;> exact h
theorem genTab_few (L : List Int) : Few (genTab L) := ⟨by rw [genTab_groups]; exact (tab1_few L).groups, by rw [genTab_groups]; exact (tab1_few L).rows⟩
theorem gen_spots (L : List Int) : (spots (genTab L)).map Spt.p = seg 0 (genN L) := by
  unfold spots; rw [genTab_groups]; exact up_spots L (genG L) (genG_range L).2 _ (Nat.le_refl _)
theorem where_isSome (T : Tab) (p : Int) : (where_ T p).isSome = decide (p ∈ (spots T).map Spt.p) := by
  unfold where_ find
  cases h : List.find? (fun x => x.p == p) (spots T) with
  | none =>
    rw [List.find?_eq_none] at h
    symm; simp only [Option.isSome_none, decide_eq_false_iff_not, List.mem_map]
    rintro ⟨x, hx, rfl⟩
    simpa using h x hx
  | some x =>
    have hx := List.mem_of_find?_eq_some h
    have hp := List.find?_some h
    symm; simp only [Option.isSome_some, decide_eq_true_eq, List.mem_map]
    exact ⟨x, hx, by simpa using hp⟩
theorem gen_on (L : List Int) : onL (genTab L) = seg 0 (genN L) := by
  unfold onL
  rw [genTab_phases]
  have h8 := genN_range L
  generalize genN L = n at *
  match n, h8 with
  | 0, _ | 1, _ | 2, _ | 3, _ | 4, _ | 5, _ | 6, _ | 7, _ | 8, _ => rfl
theorem gen_has_on (L : List Int) (p : Int) : SetM.has (onS (genTab L) : Nat) p = (where_ (genTab L) p).isSome := by
  rw [where_isSome, gen_spots, OnS.onS, gen_on]
  have h8 := genN_range L
  rw [SetM.has_of _ (SetM.of_lt _)]
  by_cases h : 0 ≤ p
  · obtain ⟨k, rfl⟩ := Int.eq_ofNat_of_zero_le h
    rw [decide_eq_true h, Bool.true_and, Int.toNat_natCast, SetM.of_test]
    have : ((k : Int) ∈ seg 0 (genN L)) ↔ ((k : Int) ∈ seg 0 (genN L) ∧ k < 8) := ⟨fun h => ⟨h, by have := mem_seg.1 h; omega⟩, fun h => h.1⟩
    simp only [decide_eq_decide]
    exact this.symm
  · rw [decide_eq_false h, Bool.false_and]
    symm
    rw [decide_eq_false_iff_not, mem_seg]
    omega
theorem beside_symm (T : Tab) (p q : Int) : beside T p q = beside T q p := by
  unfold beside
  cases where_ T p with
  | none => cases where_ T q <;> rfl
  | some a =>
    cases where_ T q with
    | none => rfl
    | some b =>
      show (a.g == b.g && a.k != b.k) = (b.g == a.g && b.k != a.k)
      rw [Bool.beq_comm, bne_comm]
end Go.Proofs.YtjolhoilcibdfaaGreat.GenT
/- The table by numbers has no Fault (stage 9), in parts: phases, conflicts, lamps in flash, detectors, buses. No program in it. -/
namespace Go.Proofs.YtjolhoilcibdfaaGreat.Val
open Go Tab GenG GenT PlaceM PlanM OnS ChkM Clone
open RefS (num num_range)
set_option linter.unusedVariables false
set_option linter.unusedSimpArgs false
/-! ### detectors -/
/-! ### buses -/
end Go.Proofs.YtjolhoilcibdfaaGreat.Val
/- The table by numbers has no Fault (stage 9): who conflicts, and the lamps in flash. No program in it. -/
namespace Go.Proofs.YtjolhoilcibdfaaGreat.Val
open Go Tab GenG GenT PlaceM PlanM OnS ChkM Clone
open RefS (num num_range)
set_option linter.unusedVariables false
set_option linter.unusedSimpArgs false
theorem bit_ne (k : Nat) (h : k < 8) : (SetM.bit (k : Int) != 0) = true := by
  rw [SetM.bit_in k h]
  have := Nat.two_pow_pos k
  simp
theorem cset_has {L : List Int} {T : Tab} {p q : Nat} {C : List Int} (hp : p < 8) (hq : q < p) (hl : C.length = 8) (hc : beside T p q = false ∧ num L (110 + 8 * p + q) 9 ≠ 1) (r x : Nat) (hr : r < 8) (hx : x < 8) :
    SetM.has ((cset L T p q C).getD r 0) x = (SetM.has (C.getD r 0) x || decide ((r = p ∧ x = q) ∨ (r = q ∧ x = p))) := by
  unfold cset
  rw [if_pos hc]
  by_cases h1 : r = q
  · subst h1
    have e1 : ((C.set p (SetM.withN (C.getD p 0) r : Nat)).set r (SetM.withN ((C.set p (SetM.withN (C.getD p 0) r : Nat)).getD r 0) p : Nat)).getD r 0 = (SetM.withN ((C.set p (SetM.withN (C.getD p 0) r : Nat)).getD r 0) p : Nat) := by
      rw [List.getD_eq_getElem?_getD, List.getElem?_set_self (by simp; omega)]; rfl
    have e2 : (C.set p (SetM.withN (C.getD p 0) r : Nat)).getD r 0 = C.getD r 0 := by
      rw [List.getD_eq_getElem?_getD, List.getElem?_set_ne (by omega), ← List.getD_eq_getElem?_getD]
    rw [e1, e2, SetM.has_with, bit_ne p hp, Bool.true_and]
    congr 1
    rw [Bool.eq_iff_iff, beq_iff_eq, decide_eq_true_eq]
    omega
  · have e1 : ((C.set p (SetM.withN (C.getD p 0) q : Nat)).set q (SetM.withN ((C.set p (SetM.withN (C.getD p 0) q : Nat)).getD q 0) p : Nat)).getD r 0 = (C.set p (SetM.withN (C.getD p 0) q : Nat)).getD r 0 := by
      rw [List.getD_eq_getElem?_getD, List.getElem?_set_ne (by omega), ← List.getD_eq_getElem?_getD]
    rw [e1]
    by_cases h2 : r = p
    · subst h2
      have e2 : (C.set r (SetM.withN (C.getD r 0) q : Nat)).getD r 0 = (SetM.withN (C.getD r 0) q : Nat) := by
        rw [List.getD_eq_getElem?_getD, List.getElem?_set_self (by omega)]; rfl
      rw [e2, SetM.has_with, bit_ne q (by omega), Bool.true_and]
      congr 1
      rw [Bool.eq_iff_iff, beq_iff_eq, decide_eq_true_eq]
      omega
    · have e2 : (C.set p (SetM.withN (C.getD p 0) q : Nat)).getD r 0 = C.getD r 0 := by
        rw [List.getD_eq_getElem?_getD, List.getElem?_set_ne (by omega), ← List.getD_eq_getElem?_getD]
      rw [e2, decide_eq_false (by omega), Bool.or_false]
/-- What holds of the sets of those who conflict, from the first on. -/
structure Cf (T : Tab) (C : List Int) : Prop where
  len : C.length = 8
  bd : ∀ x ∈ C, 0 ≤ x ∧ x < 256
  rel : ∀ p q : Nat, p < 8 → q < 8 → SetM.has (C.getD p 0) q = true → SetM.has (C.getD q 0) p = true ∧ p ≠ q ∧ beside T p q = false
theorem set_bd {C : List Int} {p : Nat} {m : Nat} (h : ∀ x ∈ C, 0 ≤ x ∧ x < 256) (hm : m < 256) : ∀ x ∈ C.set p (m : Int), 0 ≤ x ∧ x < 256 := by
  intro x hx
  rcases List.mem_or_eq_of_mem_set hx with h1 | rfl
  · exact h x h1
  · omega
theorem Cf.step {L : List Int} {T : Tab} {p q : Nat} {C : List Int} (h : Cf T C) (hp : p < 8) (hq : q < p) : Cf T (cset L T p q C) := by
  by_cases hc : beside T p q = false ∧ num L (110 + 8 * p + q) 9 ≠ 1
  · refine ⟨by rw [cset_len]; exact h.len, ?_, fun a b ha hb hab => ?_⟩
    · unfold cset
      rw [if_pos hc]
      exact set_bd (set_bd h.bd (SetM.with_lt _ _)) (SetM.with_lt _ _)
    · rw [cset_has hp hq h.len hc a b ha hb, Bool.or_eq_true, decide_eq_true_eq] at hab
      rw [cset_has hp hq h.len hc b a hb ha, Bool.or_eq_true, decide_eq_true_eq]
      rcases hab with hab | ⟨rfl, rfl⟩ | ⟨rfl, rfl⟩
      · obtain ⟨h1, h2, h3⟩ := h.rel a b ha hb hab
        exact ⟨.inl h1, h2, h3⟩
      · exact ⟨.inr (.inr ⟨rfl, rfl⟩), by omega, hc.1⟩
      · exact ⟨.inr (.inl ⟨rfl, rfl⟩), by omega, by rw [beside_symm]; exact hc.1⟩
  · have : cset L T p q C = C := by unfold cset; rw [if_neg hc]
    rw [this]; exact h
theorem Cf.row {L : List Int} {T : Tab} {p : Nat} {C : List Int} (h : Cf T C) (hp : p < 8) : ∀ q, q ≤ p → Cf T (crow L T p C q)
  | 0, _ => h
  | q + 1, hq => (Cf.row h hp q (by omega)).step hp (by omega)
theorem Cf.all {L : List Int} {T : Tab} {C : List Int} (h : Cf T C) : ∀ p, p ≤ 8 → Cf T (call L T C p)
  | 0, _ => h
  | p + 1, hp => (Cf.all h p (by omega)).row (by omega) p (Nat.le_refl _)
theorem has_zero (q : Int) : SetM.has 0 q = false := by
  unfold SetM.has SetM.low; simp
theorem Cf.start (T : Tab) : Cf T [0, 0, 0, 0, 0, 0, 0, 0] := by
  refine ⟨rfl, fun x hx => ?_, fun p q hp hq h => ?_⟩
  · simp at hx; omega
  · exfalso
    have e : ([0, 0, 0, 0, 0, 0, 0, 0] : List Int).getD p 0 = 0 := by
      match p, hp with
      | 0, _ | 1, _ | 2, _ | 3, _ | 4, _ | 5, _ | 6, _ | 7, _ => rfl
    rw [e, has_zero] at h
    simp at h
/-! ### flash -/
end Go.Proofs.YtjolhoilcibdfaaGreat.Val
/- The table by numbers has no Fault (stage 9): all lies within the ranges. No program in it. -/
namespace Go.Proofs.YtjolhoilcibdfaaGreat.Val
open Go Tab GenG GenT PlaceM PlanM OnS ChkM Clone May
open RefS (num num_range)
open ChkX (allIn_iff in_ranges InR)
open MayF (level span)
set_option linter.unusedVariables false
set_option linter.unusedSimpArgs false
/-! ### sums stay within a tick's range -/
end Go.Proofs.YtjolhoilcibdfaaGreat.Val
/- The contracts of package check's searches over sets: clash. -/
namespace Go.Proofs.YtjolhoilcibdfaaGreat.ChkI
open Go.RowKit Go.Shelf
open Tab PlaceM PlanM OnS ChkM Each Search
set_option linter.unusedVariables false
set_option linter.unusedSimpArgs false
attribute [local go_sem] Oper.semAt_some
/-- What a table's box gives: the conflicts and the flash of each phase. -/
structure Bxd (T : Tab) (b : Nat) (W : World) : Prop where
  cf : ∀ p : Int, 0 ≤ p → p < 8 → W.cell? ⟨b, 105 + p.toNat, none⟩ = some (I (cfAt T p))
  fl : ∀ p : Int, 0 ≤ p → p < 8 → W.cell? ⟨b, 121 + p.toNat, none⟩ = some (I (flAt T p))
theorem bxd_new {T : Tab} {h : Hd} {w : World} (ht : IsTab w h T) : Bxd T w.heap.size (w.alloc (.cells (T.cells h).toArray 32)) := by
  have C := cells_ok ht
  have hb : (w.alloc (.cells (T.cells h).toArray 32)).heap[w.heap.size]? = some (.cells (T.cells h).toArray 32 (0, 0)) := heap_alloc_new w _
  constructor
  · intro p h0 h8
    obtain ⟨k, rfl⟩ := Int.eq_ofNat_of_zero_le h0
    rw [cell_of_row _ _ _ _ _ _ hb]
    have hk : k < 8 := by omega
    have h1 := congrArg (·[k]?) C.conflict
    simp only [List.getElem?_take, List.getElem?_drop, List.getElem?_map] at h1
    rw [if_pos hk, Array.getElem?_toList] at h1
    rw [Int.toNat_natCast, h1, List.getElem?_eq_getElem (by rw [ht.cf]; exact hk)]
    simp [cfAt, List.getD_eq_getElem?_getD, List.getElem?_eq_getElem (show k < T.conflict.length by rw [ht.cf]; exact hk)]
  · intro p h0 h8
    obtain ⟨k, rfl⟩ := Int.eq_ofNat_of_zero_le h0
    rw [cell_of_row _ _ _ _ _ _ hb]
    have hk : k < 8 := by omega
    have h1 := congrArg (·[k]?) C.flash
    simp only [List.getElem?_take, List.getElem?_drop, List.getElem?_map] at h1
    rw [if_pos hk, Array.getElem?_toList] at h1
    rw [Int.toNat_natCast, h1, List.getElem?_eq_getElem (by rw [ht.fl]; exact hk)]
    simp [flAt, List.getD_eq_getElem?_getD, List.getElem?_eq_getElem (show k < T.flash.length by rw [ht.fl]; exact hk)]
theorem Bxd.below {T : Tab} {b : Nat} {W W' : World} (h : Bxd T b W) (hb : Below W.heap.size W W') : Bxd T b W' :=
  ⟨fun p h0 h8 => (hb.cell (World.block_lt_of_cell? W _ (h.cf p h0 h8))).trans (h.cf p h0 h8), fun p h0 h8 => (hb.cell (World.block_lt_of_cell? W _ (h.fl p h0 h8))).trans (h.fl p h0 h8)⟩
/-- Four blocks laid one behind the other. -/
theorem laid4 (w : World) (o0 o1 o2 o3 : Obj) : ∃ W, ((((w.alloc o0).alloc o1).alloc o2).alloc o3) = W ∧ W.heap.size = w.heap.size + 4 ∧ Below w.heap.size w W ∧ Below (w.heap.size + 1) (w.alloc o0) W ∧ W.heap[w.heap.size + 1]? = some o1 ∧ W.heap[w.heap.size + 2]? = some o2 ∧ W.heap[w.heap.size + 3]? = some o3 := by
  refine ⟨_, rfl, by simp, (((((Below.refl _ w).alloc (Nat.le_refl _) _).alloc (by simp) _).alloc (by simp; omega) _).alloc (by simp; omega) _), ?_, ?_, ?_, ?_⟩
  · have := (((Below.refl (w.alloc o0).heap.size (w.alloc o0)).alloc (Nat.le_refl _) o1).alloc (by simp) o2).alloc (by simp; try omega) o3
    simpa using this
  · have h1 := heap_alloc_new (w.alloc o0) o1
    have h2 := Below.heap_alloc ((w.alloc o0).alloc o1) o2 (w.heap.size + 1) (by simp)
    have h3 := Below.heap_alloc (((w.alloc o0).alloc o1).alloc o2) o3 (w.heap.size + 1) (by simp)
    rw [World.size_alloc] at h1
    exact h3.trans (h2.trans h1)
  · have h1 := heap_alloc_new ((w.alloc o0).alloc o1) o2
    have h3 := Below.heap_alloc (((w.alloc o0).alloc o1).alloc o2) o3 (w.heap.size + 2) (by simp)
    simp only [World.size_alloc] at h1
    exact h3.trans h1
  · have h1 := heap_alloc_new (((w.alloc o0).alloc o1).alloc o2) o3
    simp only [World.size_alloc] at h1
    exact h1
theorem setRow_grown (W : World) (b : Nat) (cs : Array Value) (h : b < W.heap.size) : W.grownBy (W.setRow b cs) (some b) :=
  ⟨rfl, rfl, rfl, by simp [World.setRow], fun j _ hj => setRow_other _ _ _ _ (fun e => hj (by rw [e]))⟩
theorem hmx : Tryz.prog.follows .mixedOrders = true := by kernel_rfl
set_option maxRecDepth 100000 in
set_option maxHeartbeats 2000000 in
theorem clash_any (T : Tab) (h : Hd) (s : Int) (w : World) (ht : IsTab w h T) :
    Calls Tryz.prog 116 #[.agg (T.cells h).toArray, .int .i64 s] w fun e w' => e = .returned (.bool (clashC T s)) ∧ Below w.heap.size w w' := by
  have hsz := (cells_ok ht).size
  have A0 : Hid (Below w.heap.size w (w.alloc (.cells (T.cells h).toArray 32))) := Lib.hid ((Below.refl _ _).alloc (Nat.le_refl _) _)
  have BX := Lib.hid (bxd_new ht)
  have hs1 : (w.alloc (.cells (T.cells h).toArray 32)).heap.size = w.heap.size + 1 := by simp
  clear ht
  generalize T.cells h = c at *
  refine (callsIn_wide (n := 3)).1 ?_
  refine callsIn_of_wp_marks Tryz.func116 rfl trivial ?_ rfl
  simp only [Tryz.ntmps116, List.size_toArray, List.length_cons, List.length_nil, Nat.reduceAdd, Nat.reduceSub, Array.replicate_succ, Array.replicate_zero, List.push_toArray, List.append_toArray, List.nil_append, List.cons_append]
  gi_wp2_with fail
  refine ⟨trivial, (Each.each_in _ _ _).mono ?_⟩
  rintro e w' ⟨rfl, rfl⟩
  gi_wp2_with fail
  obtain ⟨W0, hW0, E1, E0, EB, bS, bR, bE⟩ := laid4 w (.cells c.toArray 32) (.cells #[.int .i64 s] 3) (.cells #[.bool false] 4) (.cells #[.int .i64 s] 3)
  rw [hW0]
  have BX := Lib.hid (BX.out.below (by rw [hs1]; exact EB))
  clear hW0 EB hs1 hsz A0
  have bS : Boxed W0 (w.heap.size + 1) 3 (.int .i64 s) := bS
  have bR : Boxed W0 (w.heap.size + 2) 4 (.bool false) := bR
  have bE : Boxed W0 (w.heap.size + 3) 3 (.int .i64 s) := bE
  refine search (fun p => bits .and .i64 (cfAt T p) s != 0) (fun _ => .cells #[.bool true] 4 (0, 0)) (w.heap.size + 3) (w.heap.size + 2) s (by omega) rfl rfl (by omega) (by omega) bE.cell
    (fun x => { tmps := #[.agg c.toArray, .int .i64 s, .pointer (some ⟨w.heap.size, 0, none⟩), .pointer (some ⟨w.heap.size + 1, 0, none⟩), .pointer (some ⟨w.heap.size + 1 + 1, 0, none⟩), .int .i64 x, .int .i64 s, .func (.func 127) #[] #[.pointer (some ⟨w.heap.size + 1 + 1 + 1, 0, none⟩)], .int .i64 x, undef, undef, undef, undef, undef, undef, undef], defers := [] }) ?assign ?body ?done ?stop
  case assign =>
    intro l x W K hK
    gi_wp2
    exact hK
  case body =>
    intro l x W hx hB
    have hx8 := SetM.list_bd s x hx
    have cc := (BX.out.below hB).cf x hx8.1 hx8.2
    have cS := (Boxed.cell (show Boxed W (w.heap.size + 1) 3 (.int .i64 s) from (hB.block _ (by omega)).trans bS))
    have hne : Nonempty (Ph.S (Row.Old W)) := ⟨⟨0, W, Below.refl _ _⟩⟩
    obtain ⟨k, rfl⟩ := Int.eq_ofNat_of_zero_le hx8.1
    rw [Int.toNat_natCast] at cc
    have CC : ∀ p : Ph.S (Row.Old W), p.world.cell? ⟨w.heap.size, 105 + k, none⟩ = some (I (cfAt T k)) := fun p => (p.is.cell (World.block_lt_of_cell? W _ cc)).trans cc
    have CS : ∀ p : Ph.S (Row.Old W), p.world.cell? ⟨w.heap.size + 1, 0, none⟩ = some (.int .i64 s) := fun p => (p.is.cell (World.block_lt_of_cell? W _ cS)).trans cS
    have hk8 : k < 8 := by omega
    gi_wp2
    refine Up.region_ph (Row.Old W) [] (fun ⟨_, _, h⟩ => h) (by kernel_rfl) hmx (by kernel_rfl) (Row.Old.drew _) ?_
    iterate 7
      (refine Pw.calm rfl (fun K hK => ?_)
       go_simp
       refine hK _ ?_
       clear hK K)
    refine Pw.nil ?_
    intro W1 hb1
    have hv : Boxed W1 (w.heap.size + 1 + 1) 4 (.bool false) := (hb1.block _ (by have := hB.size; omega)).trans ((hB.block _ (by omega)).trans bR)
    have hc := hv.cell
    have hf := hv.frozen
    clear CC CS cc cS hne BX hB
    generalize hg : (bits BinOp.and IntKind.i64 (cfAt T k) s != 0) = r
    cases r with
    | true =>
      have HG := Lib.hid hg
      clear hg
      gi_wp2
      exact ⟨HG.out, grown_trans (grown_of_below hb1) (grownBy_setCell' _ _ _), hv.set (.bool true)⟩
    | false =>
      have HG := Lib.hid hg
      clear hg
      gi_wp2
      exact ⟨HG.out, hb1⟩
  case done =>
    intro D W hD hall hB hK
    have hv : Boxed W (w.heap.size + 1 + 1) 4 (.bool false) := (hB.block _ (by omega)).trans bR
    have hc := hv.cell
    have hf := hv.frozen
    have HR : Hid (clashC T s = false) := Lib.hid (by unfold clashC; rw [List.any_eq_false]; intro x hx; simpa using hall x hx)
    have HB : Hid (Below w.heap.size w W) := Lib.hid (E0.trans (hB.mono (by omega)))
    clear hB hall
    gi_wp2
    have hv2 := hv.set (.bool false)
    have hK' := (KeepsOthers.setCell W ⟨w.heap.size + 1 + 1, 0, none⟩ (.bool false)).same D _ hK rfl
    refine ⟨by simp, .inl ⟨_, _, rfl, run_takeDeferred hK', ?_⟩⟩
    have hc5 := cell_kept hv2.cell (grownBy_putObj' _ D (.deferred none)) (fun r e => by cases e; exact ⟨_, hK', rfl⟩)
    refine ⟨.bool false, ?_, by rw [HR.out], (HB.out.setCell (p := ⟨w.heap.size + 1 + 1, 0, none⟩) (by simp; try omega) _).trans (belowK_b (w := w) (Nat.le_refl _) _ D _ _ (by omega) hK' rfl rfl)⟩
    simp [results, Tryz.f116, go_sem, hc5]
  case stop =>
    intro D x W hD hf hx hg hR hK
    have HR : Hid (clashC T s = true) := Lib.hid (by unfold clashC; rw [List.any_eq_true]; exact ⟨x, List.mem_of_find?_eq_some hf, hx⟩)
    have hv : Boxed W (w.heap.size + 1 + 1) 4 (.bool true) := hR
    have HB : Hid (Below w.heap.size w W) := Lib.hid (E0.grown hg (by omega) (fun k e => by cases e; omega))
    clear hf hx hg
    gi_wp2
    refine ⟨by simp, .inl ⟨_, _, rfl, run_takeDeferred hK, ?_⟩⟩
    have hc5 := cell_kept hv.cell (grownBy_putObj' _ D (.deferred none)) (fun r e => by cases e; exact ⟨_, hK, rfl⟩)
    refine ⟨.bool true, ?_, by rw [HR.out], HB.out.trans (belowK_b (w := w) (Nat.le_refl _) W D _ _ (by omega) hK rfl rfl)⟩
    simp [results, Tryz.f116, go_sem, hc5]
end Go.Proofs.YtjolhoilcibdfaaGreat.ChkI
/- The contract of package check's badConflict. -/
namespace Go.Proofs.YtjolhoilcibdfaaGreat.ChkJ
open Go.RowKit Go.Shelf
open Tab PlaceM PlanM OnS ChkM Each Search ChkI
open May (infoT)
set_option linter.unusedVariables false
set_option linter.unusedSimpArgs false
attribute [local go_sem] Oper.semAt_some
/-- Three blocks laid one behind the other. -/
theorem laid3 (w : World) (o0 o1 o2 : Obj) : ∃ W, (((w.alloc o0).alloc o1).alloc o2) = W ∧ W.heap.size = w.heap.size + 3 ∧ Below w.heap.size w W ∧ Below (w.heap.size + 1) (w.alloc o0) W ∧ W.heap[w.heap.size + 1]? = some o1 ∧ W.heap[w.heap.size + 2]? = some o2 := by
  refine ⟨_, rfl, by simp, ((((Below.refl _ w).alloc (Nat.le_refl _) _).alloc (by simp) _).alloc (by simp; omega) _), ?_, ?_, ?_⟩
  · have := (((Below.refl (w.alloc o0).heap.size (w.alloc o0)).alloc (Nat.le_refl _) o1).alloc (by simp) o2)
    simpa using this
  · have h1 := heap_alloc_new (w.alloc o0) o1
    have h2 := Below.heap_alloc ((w.alloc o0).alloc o1) o2 (w.heap.size + 1) (by simp)
    rw [World.size_alloc] at h1
    exact h2.trans h1
  · have h1 := heap_alloc_new ((w.alloc o0).alloc o1) o2
    simp only [World.size_alloc] at h1
    exact h1
/-- What is bad of a phase q that is On, beside p. -/
def cbad (T : Tab) (p q : Int) : Bool := (SetM.has (cfAt T p) q != SetM.has (cfAt T q) p) || (SetM.has (cfAt T p) q && beside T p q)
theorem conf_self {T : Tab} {p : Int} (h : SetM.has (cfAt T p) p = true) : confBad T p = true := by unfold confBad; rw [h]; rfl
theorem conf_any {T : Tab} {p : Int} (h : SetM.has (cfAt T p) p = false) : confBad T p = (ons T).any (cbad T p) := by unfold confBad; rw [h]; rfl
set_option maxRecDepth 100000 in
set_option maxHeartbeats 4000000 in
theorem badConflict_any (T : Tab) (h : Hd) (k : Nat) (hk : k < 8) (w : World) (ht : IsTab w h T) :
    Calls Tryz.prog 77 #[.agg (T.cells h).toArray, .int .i64 k] w fun e w' => e = .returned (.bool (confBad T k)) ∧ Below w.heap.size w w' := by
  have hsz := (cells_ok ht).size
  have IA : Hid ((Tryz.prog.info? 32).map (·.size) = some (T.cells h).length) := Lib.hid (by rw [List.size_toArray] at hsz; rw [hsz]; exact infoT)
  have ON : Hid (∀ W, Below w.heap.size w W → Calls Tryz.prog 96 #[.agg (T.cells h).toArray] W fun e w' => e = .returned (.int .i64 (onS T : Nat)) ∧ Below W.heap.size W w') := Lib.hid (fun W hb => PlanO.pon_any T h W (ht.below hb))
  have BS : Hid (∀ (p q : Int) W, Below w.heap.size w W → Calls Tryz.prog 112 #[.agg (T.cells h).toArray, .int .i64 p, .int .i64 q] W fun e w' => e = .returned (.bool (beside T p q)) ∧ Below W.heap.size W w') := Lib.hid (fun p q W hb => PlanW.pbeside_any T h p q W (ht.below hb))
  have BX0 := Lib.hid (bxd_new ht)
  have LT0 := Lib.hid (Row.lies_new w (T.cells h).toArray 32)
  have hs1 : (w.alloc (.cells (T.cells h).toArray 32)).heap.size = w.heap.size + 1 := by simp
  clear ht
  generalize T.cells h = c at *
  refine (callsIn_wide (n := 3)).1 ?_
  refine callsIn_of_wp_marks Tryz.func77 rfl trivial ?_ rfl
  simp only [Tryz.ntmps77, List.size_toArray, List.length_cons, List.length_nil, Nat.reduceAdd, Nat.reduceSub, Array.replicate_succ, Array.replicate_zero, List.push_toArray, List.append_toArray, List.nil_append, List.cons_append]
  refine wpIn_wide.2 ?_
  go_upto_region 1 with fail
  obtain ⟨W1, hW1, E1, E0, EB, bS, bR⟩ := laid3 w (.cells c.toArray 32) (.cells #[.int .i64 k] 3) (.cells #[.bool false] 4)
  rw [hW1]
  have BX1 := Lib.hid (BX0.out.below (by rw [hs1]; exact EB))
  have LT1 := Lib.hid (LT0.out.below (by rw [hs1]; exact EB))
  have A0 := Lib.hid E0
  clear hW1 EB hs1 hsz BX0 LT0 E0
  have bS : Boxed W1 (w.heap.size + 1) 3 (.int .i64 k) := bS
  have bR : Boxed W1 (w.heap.size + 1 + 1) 4 (.bool false) := bR
  have cS := bS.cell
  have cc := BX1.out.cf k (by omega) (by omega)
  rw [Int.toNat_natCast] at cc
  have hne : Nonempty (Ph.S (Row.Old W1)) := ⟨⟨0, W1, Below.refl _ _⟩⟩
  have CC : ∀ p : Ph.S (Row.Old W1), p.world.cell? ⟨w.heap.size, 105 + k, none⟩ = some (I (cfAt T k)) := fun p => (p.is.cell (World.block_lt_of_cell? W1 _ cc)).trans cc
  have CS : ∀ p : Ph.S (Row.Old W1), p.world.cell? ⟨w.heap.size + 1, 0, none⟩ = some (.int .i64 k) := fun p => (p.is.cell (World.block_lt_of_cell? W1 _ cS)).trans cS
  refine Pw.region (Row.Old W1) [] hmx (by kernel_rfl) (Row.Old.drew _) ?_
  have hki : ((k : Nat) : Int) < 8 := by omega
  iterate 5
    (refine Pw.calm rfl (fun K hK => ?_)
     go_simp
     refine hK _ ?_
     clear hK K)
  (refine Pw.calm rfl (fun K hK => ?_)
   go_simp
   refine ⟨_, fun p => Row.Old.pure (SetP.has_any _ _ _), hK _ ?_⟩
   clear hK K)
  refine Pw.nil ?_
  intro W2 hb
  have B0 : Hid (Below w.heap.size w W2) := Lib.hid (A0.out.trans (hb.mono (by omega)))
  have bS2 : Boxed W2 (w.heap.size + 1) 3 (.int .i64 k) := (hb.block _ (by omega)).trans bS
  have bR2 : Boxed W2 (w.heap.size + 1 + 1) 4 (.bool false) := (hb.block _ (by omega)).trans bR
  have BX := Lib.hid (BX1.out.below hb)
  have LT := Lib.hid (LT1.out.below hb)
  have E2 : w.heap.size + 3 ≤ W2.heap.size := by have := hb.size; omega
  clear CC CS cc cS hne hb bS bR BX1 LT1 A0 E1
  cases hself : SetM.has (cfAt T k) k with
  | true =>
    have HR := Lib.hid (conf_self hself)
    clear hself
    have hc := bR2.cell
    have hf := bR2.frozen
    go_wp2
    have hv2 := bR2.set (.bool true)
    have hc5 := hv2.cell
    refine ⟨.bool true, ?_, by rw [HR.out], B0.out.setCell (p := ⟨w.heap.size + 1 + 1, 0, none⟩) (by simp; omega) _⟩
    simp [results, Tryz.f77, go_sem, hc5]
  | false =>
    have HR := Lib.hid (conf_any hself)
    clear hself
    go_wp2_with (refine Row.wpList_load_g 32 _ rfl (by first | rfl | go_simp) ⟨w.heap.size, 0, none⟩ rfl c _ LT.out Tryz.underlying32 rfl IA.out ?_)
    refine (ON.out _ B0.out).mono ?_
    rintro e W3 ⟨rfl, hb⟩
    go_wp2_with fail
    refine (callsIn_wide.1 (Each.each_in 3 _ _)).mono ?_
    rintro e w' ⟨rfl, rfl⟩
    go_wp2_with fail
    have hb4 : Below W2.heap.size W2 (W3.alloc (.cells #[.int .i64 (onS T : Nat)] 3)) := hb.alloc hb.size _
    have bE : Boxed (W3.alloc (.cells #[.int .i64 (onS T : Nat)] 3)) W3.heap.size 3 (.int .i64 (onS T : Nat)) := Boxed.new _ _ _
    have hsz3 : (W3.alloc (.cells #[.int .i64 (onS T : Nat)] 3)).heap.size = W3.heap.size + 1 := by simp
    have hs3 := hb.size
    generalize W3.alloc (.cells #[.int .i64 (onS T : Nat)] 3) = W4 at hb4 bE hsz3 ⊢
    have bS4 : Boxed W4 (w.heap.size + 1) 3 (.int .i64 k) := (hb4.block _ (by omega)).trans bS2
    have bR4 : Boxed W4 (w.heap.size + 1 + 1) 4 (.bool false) := (hb4.block _ (by omega)).trans bR2
    have BX4 := Lib.hid (BX.out.below hb4)
    have LT4 := Lib.hid (LT.out.below hb4)
    have C0 : Hid (Below w.heap.size w W4) := Lib.hid (B0.out.trans (hb4.mono B0.out.size))
    have E4 : w.heap.size + 3 < W4.heap.size := by omega
    clear hb hb4 bS2 bR2 BX LT B0 E2 hs3
    generalize W3.heap.size = be at *
    refine (wpIn_wide (n := 3)).1 ?_
    refine search (cbad T k) (fun _ => .cells #[.bool true] 4 (0, 0)) be (w.heap.size + 1 + 1) (onS T : Nat) (by omega) rfl rfl (by omega) (by omega) bE.cell
      (fun x => { tmps := #[.agg c.toArray, .int .i64 k, .pointer (some ⟨w.heap.size, 0, none⟩), .pointer (some ⟨w.heap.size + 1, 0, none⟩), .pointer (some ⟨w.heap.size + 1 + 1, 0, none⟩), .int .i64 x, undef, .int .i64 k, .pointer (some ⟨w.heap.size, 105, none⟩), .pointer (some ⟨w.heap.size, 105 + k, none⟩), I (cfAt T k), .int .i64 k, .bool false, .agg c.toArray, .int .i64 (onS T : Nat), .func (.func 127) #[] #[.pointer (some ⟨be, 0, none⟩)], .int .i64 x, undef, undef, undef, undef, undef, undef, undef, undef, undef, undef, undef, undef, undef, undef, undef, undef, undef, undef, undef, undef, undef, undef, undef], defers := [] }) ?assign ?body ?done ?stop
    case assign =>
      intro l x W K hK
      gi_wp2
      exact hK
    case body =>
      intro l x W hx hB
      have hx8 := SetM.list_bd _ x hx
      have BXW := BX4.out.below hB
      have cc := BXW.cf x hx8.1 hx8.2
      have ck := BXW.cf k (by omega) (by omega)
      rw [Int.toNat_natCast] at ck
      have cS := (Boxed.cell (show Boxed W (w.heap.size + 1) 3 (.int .i64 k) from (hB.block _ (by omega)).trans bS4))
      have LTW := Lib.hid (LT4.out.below hB)
      have BW : Hid (Below w.heap.size w W) := Lib.hid (C0.out.trans (hB.mono C0.out.size))
      have hvR : Boxed W (w.heap.size + 1 + 1) 4 (.bool false) := (hB.block _ (by omega)).trans bR4
      have HV := Lib.hid hvR
      obtain ⟨j, rfl⟩ := Int.eq_ofNat_of_zero_le hx8.1
      rw [Int.toNat_natCast] at cc
      have hj8 : ((j : Nat) : Int) < 8 := hx8.2
      have hjn : j < 8 := by omega
      have CB : Hid (cbad T k j = _) := Lib.hid (by unfold cbad; rfl)
      have CC : ∀ p : Ph.S (Row.Old W), p.world.cell? ⟨w.heap.size, 105 + j, none⟩ = some (I (cfAt T j)) := fun p => (p.is.cell (World.block_lt_of_cell? W _ cc)).trans cc
      have CS : ∀ p : Ph.S (Row.Old W), p.world.cell? ⟨w.heap.size + 1, 0, none⟩ = some (.int .i64 k) := fun p => (p.is.cell (World.block_lt_of_cell? W _ cS)).trans cS
      have CH := Lib.hid CC
      have CSH := Lib.hid CS
      have BSW : Hid (∀ p : Ph.S (Row.Old W), Calls Tryz.prog 112 #[.agg c.toArray, .int .i64 k, .int .i64 j] p.world fun e w' => e = .returned (.bool (beside T k j)) ∧ Below p.world.heap.size p.world w') := Lib.hid (fun p => BS.out k j _ (BW.out.trans (p.is.mono BW.out.size)))
      clear cc CC CS hB BXW bE bS4 bR4 hvR
      obtain ⟨a, ha⟩ : ∃ a, SetM.has (cfAt T k) j = a := ⟨_, rfl⟩
      obtain ⟨b, hb'⟩ : ∃ b, SetM.has (cfAt T j) k = b := ⟨_, rfl⟩
      gi_wp2_with (refine ⟨trivial, ?_⟩; gi_at_call 95; refine (CallsIn.inRound l (callsIn_wide.2 (SetP.has_any _ _ _))).mono ?_; rintro e w' ⟨rfl, rfl⟩; rw [ha])
      have hne : Nonempty (Ph.S (Row.Old W)) := ⟨⟨0, W, Below.refl _ _⟩⟩
      have CC := CH.out
      have CS := CSH.out
      refine Up.region_ph (Row.Old W) [] (fun ⟨_, _, h⟩ => h) (by kernel_rfl) hmx (by kernel_rfl) (Row.Old.drew _) ?_
      iterate 6
        (refine Pw.calm rfl (fun K hK => ?_)
         go_simp
         refine hK _ ?_
         clear hK K)
      (refine Pw.calm rfl (fun K hK => ?_)
       go_simp
       refine ⟨_, fun p => Row.Old.pure (SetP.has_any _ _ _), hK _ ?_⟩
       clear hK K)
      rw [hb']
      cases a with
      | false =>
        cases b with
        | false =>
          have HCB : Hid (cbad T k j = false) := Lib.hid (by rw [CB.out, ha, hb']; rfl)
          clear ha hb' CB
          iterate 4
            (refine Pw.calm rfl (fun K hK => ?_)
             go_simp
             refine hK _ ?_
             clear hK K)
          refine Pw.skips 4 (by kernel_rfl) ?_
          (try simp only [List.take_succ_cons, List.take_zero, List.drop_succ_cons, List.drop_zero, Pw.undefs])
          (try dsimp only [Act.put])
          (try simp only [List.setIfInBounds_toArray, List.set_cons_zero, List.set_cons_succ])
          iterate 2
            (refine Pw.calm rfl (fun K hK => ?_)
             go_simp
             refine hK _ ?_
             clear hK K)
          refine Pw.nil ?_
          intro Wz hbz
          have hv : Boxed Wz (w.heap.size + 1 + 1) 4 (.bool false) := (hbz.block _ HV.out.lt).trans HV.out
          have hc := hv.cell
          have hf := hv.frozen
          clear CC CS hne
          gi_wp2
          exact ⟨HCB.out, hbz⟩
        | true =>
          have HCB : Hid (cbad T k j = true) := Lib.hid (by rw [CB.out, ha, hb']; rfl)
          clear ha hb' CB
          iterate 2
            (refine Pw.calm rfl (fun K hK => ?_)
             go_simp
             refine hK _ ?_
             clear hK K)
          refine Pw.skips 7 (by kernel_rfl) ?_
          (try simp only [List.take_succ_cons, List.take_zero, List.drop_succ_cons, List.drop_zero, Pw.undefs])
          (try dsimp only [Act.put])
          (try simp only [List.setIfInBounds_toArray, List.set_cons_zero, List.set_cons_succ])
          iterate 1
            (refine Pw.calm rfl (fun K hK => ?_)
             go_simp
             refine hK _ ?_
             clear hK K)
          refine Pw.nil ?_
          intro Wz hbz
          have hv : Boxed Wz (w.heap.size + 1 + 1) 4 (.bool false) := (hbz.block _ HV.out.lt).trans HV.out
          have hc := hv.cell
          have hf := hv.frozen
          clear CC CS hne
          gi_wp2
          exact ⟨HCB.out, grown_trans (grown_of_below hbz) (grownBy_setCell' _ _ _), hv.set (.bool true)⟩
      | true =>
        cases b with
        | false =>
          have HCB : Hid (cbad T k j = true) := Lib.hid (by rw [CB.out, ha, hb']; rfl)
          clear ha hb' CB
          iterate 2
            (refine Pw.calm rfl (fun K hK => ?_)
             go_simp
             refine hK _ ?_
             clear hK K)
          refine Pw.skips 7 (by kernel_rfl) ?_
          (try simp only [List.take_succ_cons, List.take_zero, List.drop_succ_cons, List.drop_zero, Pw.undefs])
          (try dsimp only [Act.put])
          (try simp only [List.setIfInBounds_toArray, List.set_cons_zero, List.set_cons_succ])
          iterate 1
            (refine Pw.calm rfl (fun K hK => ?_)
             go_simp
             refine hK _ ?_
             clear hK K)
          refine Pw.nil ?_
          intro Wz hbz
          have hv : Boxed Wz (w.heap.size + 1 + 1) 4 (.bool false) := (hbz.block _ HV.out.lt).trans HV.out
          have hc := hv.cell
          have hf := hv.frozen
          clear CC CS hne
          gi_wp2
          exact ⟨HCB.out, grown_trans (grown_of_below hbz) (grownBy_setCell' _ _ _), hv.set (.bool true)⟩
        | true =>
          have HCB0 : Hid (cbad T k j = beside T k j) := Lib.hid (by rw [CB.out, ha, hb']; simp)
          clear ha hb' CB
          obtain ⟨bs, hbs⟩ : ∃ x, beside T k j = x := ⟨_, rfl⟩
          iterate 4
            (refine Pw.calm rfl (fun K hK => ?_)
             go_simp
             refine hK _ ?_
             clear hK K)
          refine Pw.load rfl (by rfl) 32 _ rfl ⟨w.heap.size, 0, none⟩ rfl c _ (fun p => LTW.out.below p.is) Tryz.underlying32 rfl IA.out ?_
          (try dsimp only [Act.put]); (try simp only [List.setIfInBounds_toArray, List.set_cons_zero, List.set_cons_succ])
          iterate 2
            (refine Pw.calm rfl (fun K hK => ?_)
             go_simp
             refine hK _ ?_
             clear hK K)
          (refine Pw.calm rfl (fun K hK => ?_)
           go_simp
           refine ⟨_, fun p => Row.Old.call (BSW.out p), hK _ ?_⟩
           clear hK K)
          rw [hbs]
          have HCB : Hid (cbad T k j = bs) := Lib.hid (HCB0.out.trans hbs)
          clear hbs HCB0
          cases bs with
          | true =>
            iterate 2
              (refine Pw.calm rfl (fun K hK => ?_)
               go_simp
               refine hK _ ?_
               clear hK K)
            refine Pw.nil ?_
            intro Wz hbz
            have hv : Boxed Wz (w.heap.size + 1 + 1) 4 (.bool false) := (hbz.block _ HV.out.lt).trans HV.out
            have hc := hv.cell
            have hf := hv.frozen
            clear CC CS hne
            gi_wp2
            exact ⟨HCB.out, grown_trans (grown_of_below hbz) (grownBy_setCell' _ _ _), hv.set (.bool true)⟩
          | false =>
            iterate 2
              (refine Pw.calm rfl (fun K hK => ?_)
               go_simp
               refine hK _ ?_
               clear hK K)
            refine Pw.nil ?_
            intro Wz hbz
            have hv : Boxed Wz (w.heap.size + 1 + 1) 4 (.bool false) := (hbz.block _ HV.out.lt).trans HV.out
            have hc := hv.cell
            have hf := hv.frozen
            clear CC CS hne
            gi_wp2
            exact ⟨HCB.out, hbz⟩
    case done =>
      intro D W hD hall hB hK
      have hv : Boxed W (w.heap.size + 1 + 1) 4 (.bool false) := (hB.block _ (by omega)).trans bR4
      have hc := hv.cell
      have hf := hv.frozen
      have HR2 : Hid (confBad T k = false) := Lib.hid (by rw [HR.out, List.any_eq_false]; intro x hx; simpa using hall x hx)
      have HB : Hid (Below w.heap.size w W) := Lib.hid (C0.out.trans (hB.mono C0.out.size))
      clear hB hall
      go_wp2
      have hv2 := hv.set (.bool false)
      have hK' := (KeepsOthers.setCell W ⟨w.heap.size + 1 + 1, 0, none⟩ (.bool false)).same D _ hK rfl
      refine ⟨by simp, .inl ⟨_, _, rfl, run_takeDeferred hK', ?_⟩⟩
      have hc5 := cell_kept hv2.cell (grownBy_putObj' _ D (.deferred none)) (fun r e => by cases e; exact ⟨_, hK', rfl⟩)
      refine ⟨.bool false, ?_, by rw [HR2.out], (HB.out.setCell (p := ⟨w.heap.size + 1 + 1, 0, none⟩) (by simp; omega) _).trans (belowK_b (w := w) (Nat.le_refl _) _ D _ _ (by omega) hK' rfl rfl)⟩
      simp [results, Tryz.f77, go_sem, hc5]
    case stop =>
      intro D x W hD hf hx hg hR hK
      have HR2 : Hid (confBad T k = true) := Lib.hid (by rw [HR.out, List.any_eq_true]; exact ⟨x, List.mem_of_find?_eq_some hf, hx⟩)
      have hv : Boxed W (w.heap.size + 1 + 1) 4 (.bool true) := hR
      have HB : Hid (Below w.heap.size w W) := Lib.hid (C0.out.grown hg (by omega) (fun k e => by cases e; omega))
      clear hf hx hg
      gi_wp2
      refine ⟨by simp, .inl ⟨_, _, rfl, run_takeDeferred hK, ?_⟩⟩
      have hc5 := cell_kept hv.cell (grownBy_putObj' _ D (.deferred none)) (fun r e => by cases e; exact ⟨_, hK, rfl⟩)
      refine ⟨.bool true, ?_, by rw [HR2.out], HB.out.trans (belowK_b (w := w) (Nat.le_refl _) W D _ _ (by omega) hK rfl rfl)⟩
      simp [results, Tryz.f77, go_sem, hc5]
end Go.Proofs.YtjolhoilcibdfaaGreat.ChkJ
/- The contracts of package check's small functions: allOn, the lists of a table, ranges. -/
namespace Go.Proofs.YtjolhoilcibdfaaGreat.ChkA
open Go.ChangeShapes Go.WideShapes Go.ChangeAt Go.RowKit
open Tab PlaceM PlanM OnS ChkM
open May (ret_bool infoT St ints_in phases_in)
set_option linter.unusedVariables false
set_option linter.unusedSimpArgs false
set_option maxRecDepth 100000 in
set_option maxHeartbeats 4000000 in
theorem allOn_any (T : Tab) (h : Hd) (s : Int) (w : World) (ht : IsTab w h T) :
    Calls Tryz.prog 115 #[.agg (T.cells h).toArray, .int .i64 s] w fun e w' => e = .returned (.bool (allOn T s)) ∧ Below w.heap.size w w' := by
  have hsz := (cells_ok ht).size
  have IA : Hid ((Tryz.prog.info? 32).map (·.size) = some (T.cells h).length) := Lib.hid (by rw [List.size_toArray] at hsz; rw [hsz]; exact infoT)
  have ON : Hid (∀ W, Below w.heap.size w W → Calls Tryz.prog 96 #[.agg (T.cells h).toArray] W fun e w' => e = .returned (.int .i64 (onS T : Nat)) ∧ Below W.heap.size W w') := Lib.hid (fun W hb => PlanO.pon_any T h W (ht.below hb))
  have A0 : Hid (Below w.heap.size w (w.alloc (.cells (T.cells h).toArray 32))) := Lib.hid ((Below.refl _ _).alloc (Nat.le_refl _) _)
  have A1 : Hid (Lies (w.alloc (.cells (T.cells h).toArray 32)) ⟨w.heap.size, 0, none⟩ (T.cells h)) := Lib.hid (Row.lies_new w _ _)
  have HR : Hid (allOn T s = (bits .andNot .i64 s (onS T : Nat) == 0)) := Lib.hid rfl
  generalize allOn T s = r at HR ⊢
  generalize onS T = m at HR ON
  clear ht
  generalize T.cells h = c at *
  go_enter Tryz.func115, Tryz.ntmps115
  go_upto_region 1 with fail
  generalize w.alloc (.cells c.toArray 32) = u at A0 A1 ⊢
  clear hsz
  go_wp2_with (refine Row.wpList_load_g 32 _ rfl (by first | rfl | go_simp) ⟨w.heap.size, 0, none⟩ rfl c _ A1.out Tryz.underlying32 rfl IA.out ?_)
  refine (ON.out _ A0.out).mono ?_
  rintro e u1 ⟨rfl, hb⟩
  have B0 : Hid (Below w.heap.size w u1) := Lib.hid (A0.out.trans (hb.mono A0.out.size))
  clear hb A0 A1 ON
  go_wp2
  go_ret
  exact ⟨ret_bool (by rw [HR.out]), B0.out⟩
set_option maxRecDepth 100000 in
set_option maxHeartbeats 4000000 in
theorem listD_any (T : Tab) (h : Hd) (w : World) (ht : IsTab w h T) :
    Calls Tryz.prog 79 #[.agg (T.cells h).toArray] w fun e w' => e = .returned (h.d.val T.dets.length) ∧ Below w.heap.size w w' := by
  have S0 := Lib.hid (St.box (cs := (T.cells h).toArray) ht)
  have hsz := (cells_ok ht).size
  have q := (St.box (cs := (T.cells h).toArray) ht).cell (cells_ok ht).d
  generalize (T.cells h).toArray = cs at *
  clear ht
  go_enter Tryz.func79, Tryz.ntmps79
  go_upto_region 1 with fail
  generalize w.alloc (.cells cs 32) = w1 at S0 q ⊢
  clear hsz
  go_wp2
  go_ret
  exact ⟨rfl, S0.out.bel⟩
set_option maxRecDepth 100000 in
set_option maxHeartbeats 4000000 in
theorem listR_any (T : Tab) (h : Hd) (w : World) (ht : IsTab w h T) :
    Calls Tryz.prog 82 #[.agg (T.cells h).toArray] w fun e w' => e = .returned (h.r.val T.rails.length) ∧ Below w.heap.size w w' := by
  have S0 := Lib.hid (St.box (cs := (T.cells h).toArray) ht)
  have hsz := (cells_ok ht).size
  have q := (St.box (cs := (T.cells h).toArray) ht).cell (cells_ok ht).r
  generalize (T.cells h).toArray = cs at *
  clear ht
  go_enter Tryz.func82, Tryz.ntmps82
  go_upto_region 1 with fail
  generalize w.alloc (.cells cs 32) = w1 at S0 q ⊢
  clear hsz
  go_wp2
  go_ret
  exact ⟨rfl, S0.out.bel⟩
set_option maxRecDepth 100000 in
set_option maxHeartbeats 4000000 in
theorem listB_any (T : Tab) (h : Hd) (w : World) (ht : IsTab w h T) :
    Calls Tryz.prog 85 #[.agg (T.cells h).toArray] w fun e w' => e = .returned (h.b.val T.buses.length) ∧ Below w.heap.size w w' := by
  have S0 := Lib.hid (St.box (cs := (T.cells h).toArray) ht)
  have hsz := (cells_ok ht).size
  have q := (St.box (cs := (T.cells h).toArray) ht).cell (cells_ok ht).b
  generalize (T.cells h).toArray = cs at *
  clear ht
  go_enter Tryz.func85, Tryz.ntmps85
  go_upto_region 1 with fail
  generalize w.alloc (.cells cs 32) = w1 at S0 q ⊢
  clear hsz
  go_wp2
  go_ret
  exact ⟨rfl, S0.out.bel⟩
/-! ### the numbers of a rail -/
theorem rail_cells (r : Rl) (w : World) (b : Nat) (hb : w.heap[b]? = some (.cells r.cells.toArray 47 (0, 0))) :
    w.cell? ⟨b, 0, none⟩ = some (I r.bars) ∧ w.cell? ⟨b, 1, none⟩ = some (I r.clear) ∧ w.cell? ⟨b, 2, none⟩ = some (I r.dwell) ∧ w.cell? ⟨b, 3, none⟩ = some (I r.exit) ∧ w.cell? ⟨b, 4, none⟩ = some (I r.delay) ∧ w.cell? ⟨b, 5, none⟩ = some (I r.green) ∧ w.cell? ⟨b, 7, none⟩ = some (I r.hold) ∧ w.cell? ⟨b, 8, none⟩ = some (I r.stay) ∧ w.cell? ⟨b, 9, none⟩ = some (I r.most) ∧ w.cell? ⟨b, 10, none⟩ = some (I r.limit) := by
  refine ⟨?_, ?_, ?_, ?_, ?_, ?_, ?_, ?_, ?_, ?_⟩ <;> (rw [cell_of_row _ _ _ _ _ _ hb]; rfl)
set_option maxRecDepth 100000 in
set_option maxHeartbeats 4000000 in
theorem badTimes_any (r : Rl) (w : World) :
    Calls Tryz.prog 118 #[.agg r.cells.toArray] w fun e w' => e = .returned (.bool (timesBad r)) ∧ Below w.heap.size w w' := by
  have A0 : Hid (Below w.heap.size w (w.alloc (.cells r.cells.toArray 47))) := Lib.hid ((Below.refl _ _).alloc (Nat.le_refl _) _)
  obtain ⟨q0, q1, q2, q3, q4, q5, q7, q8, q9, q10⟩ := rail_cells r _ _ (heap_alloc_new w (.cells r.cells.toArray 47))
  have HR : Hid (timesBad r = _) := Lib.hid (by unfold timesBad; rfl)
  generalize timesBad r = x at HR ⊢
  have hone := Rl.one r
  have hsz : r.cells.toArray.size = 11 := rfl
  generalize r.cells.toArray = cs at *
  obtain ⟨bars, clear, dwell, exit, delay, green, foot, hold, stay, most, limit⟩ := r
  simp only at *
  go_enter Tryz.func118, Tryz.ntmps118
  go_upto_region 1 with fail
  generalize w.alloc (.cells cs 47) = u at *
  clear q0 q2 q3 hone hsz
  go_wp2
  all_goals go_ret
  all_goals (refine ⟨ret_bool ?_, A0.out⟩)
  all_goals (rw [HR.out])
  all_goals (clear HR q1 q4 q5 q7 q8 q9 q10 A0)
  all_goals (first | grind | (simp_all <;> omega))
end Go.Proofs.YtjolhoilcibdfaaGreat.ChkA
/- The contracts of package check's badPhase, badBus, badDetector. -/
namespace Go.Proofs.YtjolhoilcibdfaaGreat.ChkB
open Go.ChangeShapes Go.WideShapes Go.ChangeAt Go.RowKit
open Tab PlaceM PlanM OnS ChkM ChkA
open May (ret_bool infoT infoP infoB infoD infoR St ints_in phases_in)
set_option linter.unusedVariables false
set_option linter.unusedSimpArgs false
theorem phase_cells (u : Ph) (w : World) (b : Nat) (hb : w.heap[b]? = some (.cells u.cells.toArray 24 (0, 0))) :
    w.cell? ⟨b, 1, none⟩ = some (I u.min) ∧ w.cell? ⟨b, 3, none⟩ = some (I u.max) ∧ w.cell? ⟨b, 4, none⟩ = some (I u.top) ∧ w.cell? ⟨b, 5, none⟩ = some (I u.step) ∧ w.cell? ⟨b, 6, none⟩ = some (I u.yellow) ∧ w.cell? ⟨b, 8, none⟩ = some (I u.walk) ∧ w.cell? ⟨b, 9, none⟩ = some (I u.blinks) ∧ w.cell? ⟨b, 10, none⟩ = some (I u.recall) := by
  refine ⟨?_, ?_, ?_, ?_, ?_, ?_, ?_, ?_⟩ <;> (rw [cell_of_row _ _ _ _ _ _ hb]; rfl)
theorem phase_lies {T : Tab} {h : Hd} {w : World} (ht : IsTab w h T) (k : Nat) (hk : k < 8) : Lies (w.alloc (.cells (T.cells h).toArray 32)) ⟨w.heap.size, k * 13, none⟩ (phAt T k).cells := by
  have C := cells_ok ht
  have hb : (w.alloc (.cells (T.cells h).toArray 32)).heap[w.heap.size]? = some (.cells (T.cells h).toArray 32 (0, 0)) := heap_alloc_new w _
  have h8 : k < T.phases.length := by rw [ht.ph]; exact hk
  have e : phAt T k = T.phases[k] := by unfold phAt; rw [Int.toNat_natCast, List.getD_eq_getElem?_getD, List.getElem?_eq_getElem h8]; rfl
  have h1 := C.phase k _ (List.getElem?_eq_getElem h8)
  rw [Nat.mul_comm] at h1
  rw [← e] at h1
  intro j v hv
  rw [Addr.add_mid, cell_of_row _ _ _ _ _ _ hb]
  rw [← h1, List.getElem?_take] at hv
  split at hv
  · rw [List.getElem?_drop, Array.getElem?_toList] at hv
    exact hv
  · cases hv
set_option maxRecDepth 100000 in
set_option maxHeartbeats 4000000 in
theorem badPhase_any (T : Tab) (h : Hd) (k : Nat) (hk : k < 8) (w : World) (ht : IsTab w h T) :
    Calls Tryz.prog 75 #[.agg (T.cells h).toArray, .int .i64 k] w fun e w' => e = .returned (.bool (phBad (phAt T k))) ∧ Below w.heap.size w w' := by
  have hsz := (cells_ok ht).size
  have A0 : Hid (Below w.heap.size w (w.alloc (.cells (T.cells h).toArray 32))) := Lib.hid ((Below.refl _ _).alloc (Nat.le_refl _) _)
  have A1 := Lib.hid (phase_lies ht k hk)
  have HS : Hid ((w.alloc (.cells (T.cells h).toArray 32)).heap.size = w.heap.size + 1) := Lib.hid (by simp)
  clear ht
  generalize T.cells h = c at *
  obtain ⟨x, hx⟩ : ∃ x, x = phBad (phAt T k) := ⟨_, rfl⟩
  rw [← hx]
  have HR := Lib.hid hx
  clear hx
  generalize phAt T k = ph at *
  go_enter Tryz.func75, Tryz.ntmps75
  go_upto_region 1 with fail
  generalize w.alloc (.cells c.toArray 32) = u at A0 A1 HS ⊢
  clear hsz
  go_upto_region 2 with (first | (refine Row.wpList_load_g 24 _ rfl (by first | rfl | go_simp) ⟨w.heap.size, k * 13, none⟩ rfl ph.cells _ A1.out Tryz.underlying24 rfl infoP ?_) | (refine Row.wpList_store_new rfl 24 _ _ rfl u _ ph.cells.toArray rfl rfl rfl infoP rfl (Ph.one _) ?_))
  have E := Lib.hid (A0.out.trans (((Below.refl u.heap.size u).alloc (Nat.le_refl _) (.cells ph.cells.toArray 24)).mono A0.out.size))
  obtain ⟨q1, q3, q4, q5, q6, q8, q9, q10⟩ := phase_cells ph _ _ (heap_alloc_new u (.cells ph.cells.toArray 24))
  generalize u.alloc (.cells ph.cells.toArray 24) = u2 at *
  generalize u.heap.size = b2 at *
  clear A0 A1 HS
  obtain ⟨on, min, gap, max, top, step, yellow, red, walk, blinks, recall, lock, rest⟩ := ph
  simp only at *
  go_wp2
  all_goals go_ret
  all_goals (refine ⟨ret_bool ?_, E.out⟩)
  all_goals (rw [HR.out]; unfold phBad; dsimp only)
  all_goals (clear HR q1 q3 q4 q5 q6 q8 q9 q10 E)
  all_goals (first | grind | (simp_all <;> omega))
/-- Two blocks laid one behind the other. -/
theorem laid2 (w : World) (o0 o1 : Obj) : ∃ W, ((w.alloc o0).alloc o1) = W ∧ W.heap.size = w.heap.size + 2 ∧ Below w.heap.size w W ∧ Below (w.heap.size + 1) (w.alloc o0) W ∧ W.heap[w.heap.size + 1]? = some o1 := by
  refine ⟨_, rfl, by simp, ((Below.refl _ w).alloc (Nat.le_refl _) _).alloc (by simp) _, ?_, ?_⟩
  · have := (Below.refl (w.alloc o0).heap.size (w.alloc o0)).alloc (Nat.le_refl _) o1
    simpa using this
  · have h1 := heap_alloc_new (w.alloc o0) o1
    rwa [World.size_alloc] at h1
theorem lies_head {w : World} {x : Addr} {v : Value} {l : List Value} (h : Lies w x (v :: l)) : w.cell? x = some v := by
  have := h 0 v rfl
  rwa [Tab.add_zero] at this
set_option maxRecDepth 100000 in
set_option maxHeartbeats 4000000 in
theorem badDetector_any (T : Tab) (h : Hd) (d : Det) (w : World) (ht : IsTab w h T) (h0 : Fl.isn d.on = false) (h1 : Fl.isn d.off = false) (hp : 0 ≤ d.phase ∧ d.phase < 8) :
    Calls Tryz.prog 80 #[.agg (T.cells h).toArray, .agg d.cells.toArray] w fun e w' => e = .returned (.bool (detBad T d)) ∧ Below w.heap.size w w' := by
  have hsz := (cells_ok ht).size
  have hs1 : (w.alloc (.cells (T.cells h).toArray 32)).heap.size = w.heap.size + 1 := by simp
  obtain ⟨ph, on, off, delay, extend, mOn, mOff⟩ := d
  dsimp only at h0 h1 hp
  obtain ⟨k, rfl⟩ := Int.eq_ofNat_of_zero_le hp.1
  have hk : k < 8 := by omega
  have LP := Lib.hid (lies_head (phase_lies ht k hk))
  obtain ⟨x, hx⟩ : ∃ x, x = detBad T ⟨k, on, off, delay, extend, mOn, mOff⟩ := ⟨_, rfl⟩
  rw [← hx]
  have HR : Hid (x = (gtF off on || !(phAt T k).on)) := Lib.hid hx
  generalize (phAt T k).on = q at LP HR
  have ho := Secs.ord_cases off on h1 h0
  have HO := Lib.hid ho
  clear hx ht h0 h1 hp ho
  generalize T.cells h = c at *
  have hone := Det.one ⟨k, on, off, delay, extend, mOn, mOff⟩
  have hsz2 : (Det.cells ⟨k, on, off, delay, extend, mOn, mOff⟩).toArray.size = 7 := rfl
  generalize hcd : (Det.cells ⟨k, on, off, delay, extend, mOn, mOff⟩).toArray = cd at *
  have HCD := Lib.hid hcd
  clear hcd
  go_enter Tryz.func80, Tryz.ntmps80
  go_upto_region 1 with fail
  obtain ⟨u, hu, E1, E0, EB, b1⟩ := laid2 w (.cells c.toArray 32) (.cells cd 45)
  rw [hu]
  have EE := Lib.hid E0
  have c0 : u.cell? ⟨w.heap.size, k * 13, none⟩ = some (.bool q) := (EB.cell (p := ⟨w.heap.size, k * 13, none⟩) (Nat.lt_succ_self _)).trans LP.out
  have q0 : u.cell? ⟨w.heap.size + 1, 0, none⟩ = some (I k) := by rw [cell_of_row _ _ _ _ _ _ b1, ← HCD.out]; rfl
  have q1 : u.cell? ⟨w.heap.size + 1, 1, none⟩ = some (.float .f64 on) := by rw [cell_of_row _ _ _ _ _ _ b1, ← HCD.out]; rfl
  have q2 : u.cell? ⟨w.heap.size + 1, 2, none⟩ = some (.float .f64 off) := by rw [cell_of_row _ _ _ _ _ _ b1, ← HCD.out]; rfl
  clear hu EB LP b1 hs1 hsz hsz2 hone E0 HCD
  rcases HO.out with ⟨a, ho⟩ | ⟨a, ho⟩ | ⟨a, ho⟩
  all_goals
    clear HO
    have HA := Lib.hid a
    clear a
    go_wp2
    go_ret
    have a := HA.out
    refine ⟨ret_bool ?_, EE.out⟩
    rw [HR.out]
    unfold gtF
    first | (rw [decide_eq_true (by omega)]; simp) | (rw [decide_eq_false (by omega)]; simp)
set_option maxRecDepth 100000 in
set_option maxHeartbeats 4000000 in
theorem badBus_any (T : Tab) (h : Hd) (d : Bs) (w : World) (ht : IsTab w h T) :
    Calls Tryz.prog 86 #[.agg (T.cells h).toArray, .agg d.cells.toArray] w fun e w' => e = .returned (.bool (busBad T d)) ∧ Below w.heap.size w w' := by
  have hsz := (cells_ok ht).size
  have IA : Hid ((Tryz.prog.info? 32).map (·.size) = some (T.cells h).length) := Lib.hid (by rw [List.size_toArray] at hsz; rw [hsz]; exact infoT)
  obtain ⟨s, lk⟩ := d
  have AO : Hid (∀ W, Below w.heap.size w W → Calls Tryz.prog 115 #[.agg (T.cells h).toArray, .int .i64 s] W fun e w' => e = .returned (.bool (allOn T s)) ∧ Below W.heap.size W w') := Lib.hid (fun W hb => allOn_any T h s W (ht.below hb))
  obtain ⟨x, hx⟩ : ∃ x, x = busBad T ⟨s, lk⟩ := ⟨_, rfl⟩
  rw [← hx]
  have HR : Hid (x = (s == 0 || (!allOn T s || decide (lk < 1)))) := Lib.hid hx
  generalize allOn T s = q at AO HR
  have A1 := Lib.hid (Row.lies_new w (T.cells h).toArray 32)
  clear hx ht
  have hone := Bs.one ⟨s, lk⟩
  have hsz2 : (Bs.cells ⟨s, lk⟩).toArray.size = 2 := rfl
  generalize hcd : (Bs.cells ⟨s, lk⟩).toArray = cd at *
  have HCD := Lib.hid hcd
  clear hcd
  generalize T.cells h = c at *
  go_enter Tryz.func86, Tryz.ntmps86
  go_upto_region 1 with fail
  obtain ⟨u, hu, E1, E0, EB, b1⟩ := laid2 w (.cells c.toArray 32) (.cells cd 49)
  rw [hu]
  have EE := Lib.hid E0
  have LT : Hid (Lies u ⟨w.heap.size, 0, none⟩ c) := Lib.hid (A1.out.below (by simpa using EB))
  have q0 : u.cell? ⟨w.heap.size + 1, 0, none⟩ = some (I s) := by rw [cell_of_row _ _ _ _ _ _ b1, ← HCD.out]; rfl
  have q1 : u.cell? ⟨w.heap.size + 1, 1, none⟩ = some (I lk) := by rw [cell_of_row _ _ _ _ _ _ b1, ← HCD.out]; rfl
  have Q1 := Lib.hid q1
  clear hu EB A1 b1 hsz hsz2 hone E0 HCD
  by_cases hs : s = 0
  · go_wp2
    go_ret
    exact ⟨ret_bool (by rw [HR.out, hs]; rfl), EE.out⟩
  · go_wp2_with (refine Row.wpList_load_g 32 _ rfl (by first | rfl | go_simp) ⟨w.heap.size, 0, none⟩ rfl c _ LT.out Tryz.underlying32 rfl IA.out ?_)
    refine (AO.out _ EE.out).mono ?_
    rintro e u1 ⟨rfl, hb⟩
    have q1 := (hb.cell (World.block_lt_of_cell? u _ Q1.out)).trans Q1.out
    have EF := Lib.hid (EE.out.trans (hb.mono EE.out.size))
    clear hb q0 LT AO Q1
    cases q with
    | true =>
      go_wp2
      go_ret
      refine ⟨ret_bool ?_, EF.out⟩
      rw [HR.out]; simp [hs]
    | false =>
      go_wp2
      go_ret
      refine ⟨ret_bool ?_, EF.out⟩
      rw [HR.out]; simp
end Go.Proofs.YtjolhoilcibdfaaGreat.ChkB
/- The contracts of the document's own in, phase, flash and conflict. -/
namespace Go.Proofs.YtjolhoilcibdfaaGreat.RkA
open Go.ChangeShapes Go.WideShapes Go.ChangeAt Go.RowKit
open Tab PlaceM PlanM OnS ChkM ChkI
open RefS (rlist_any rhas_any row_of)
open May (ret_bool infoT infoP)
set_option linter.unusedVariables false
set_option linter.unusedSimpArgs false
end Go.Proofs.YtjolhoilcibdfaaGreat.RkA
/- The contracts of package check's repeats, badGroup and rings. -/
namespace Go.Proofs.YtjolhoilcibdfaaGreat.ChkG
open Go.ChangeShapes Go.WideShapes Go.ChangeAt Go.RowKit
open Tab PlaceM PlanM OnS ChkM ChkA
open PlanW (wG wK wI idx0 idx1 info2 pwhere_any)
open May (ret_bool infoT St)
set_option linter.unusedVariables false
set_option linter.unusedSimpArgs false
def atOk (T : Tab) (g k i : Nat) (p : Int) : Bool := at0 (where_ T p) == (g, k, i)
theorem at_iff (T : Tab) (g k i : Nat) (p : Int) : atOk T g k i p = (decide (wG (where_ T p) = g) && (decide (wK (where_ T p) = k) && decide (wI (where_ T p) = i))) := by
  unfold atOk at0 wG wK wI
  cases where_ T p with
  | none => rw [Bool.eq_iff_iff]; simp; omega
  | some x => rw [Bool.eq_iff_iff]; simp; omega
theorem rep_row {T : Tab} {g k : Nat} {l : List Int} : repRow T g k l = false ↔ ∀ i, i < l.length → atOk T g k i (l.getD i 0) = true := by
  unfold repRow
  rw [List.any_eq_false]
  constructor
  · intro h i hi
    have := h i (List.mem_range.2 hi)
    unfold atOk
    simpa using this
  · intro h i hi
    have := h i (List.mem_range.1 hi)
    unfold atOk at this
    simpa using this
set_option maxRecDepth 100000 in
set_option maxHeartbeats 4000000 in
theorem repeats_any (T : Tab) (h : Hd) (g : Nat) (w : World) (ht : IsTab w h T) (hg : g < T.groups.length) :
    Calls Tryz.prog 139 #[.agg (T.cells h).toArray, .int .i64 g] w fun e w' => e = .returned (.bool (repeats T g)) ∧ Below w.heap.size w w' := by
  obtain ⟨⟨ga, gcap⟩, sd, sr, sb⟩ := h
  have hsz1 := (cells_ok ht).size
  have IA : Hid ((Tryz.prog.info? 32).map (·.size) = some (T.cells ⟨⟨ga, gcap⟩, sd, sr, sb⟩).length) := Lib.hid (by rw [List.size_toArray] at hsz1; rw [hsz1]; exact infoT)
  have WH : Hid (∀ p W, Below w.heap.size w W → Calls Tryz.prog 63 #[.agg (T.cells ⟨⟨ga, gcap⟩, sd, sr, sb⟩).toArray, .int .i64 p] W fun e w' => e = .returned (.tuple #[I (wG (where_ T p)), I (wK (where_ T p)), I (wI (where_ T p)), .bool (where_ T p).isSome]) ∧ Below W.heap.size W w') := Lib.hid (fun p W hb => pwhere_any T _ p W (ht.below hb))
  have LT0 := Lib.hid (Row.lies_new w (T.cells ⟨⟨ga, gcap⟩, sd, sr, sb⟩).toArray 32)
  have C := Lib.hid (cells_ok ht)
  obtain ⟨gs, hgd, hgr⟩ := ht.groups
  have Hgr := Lib.hid hgr
  have Hgd := Lib.hid hgd
  have S0 := Lib.hid (St.box (cs := (T.cells ⟨⟨ga, gcap⟩, sd, sr, sb⟩).toArray) ht)
  have Hgl := Lib.hid (show T.groups.length = gs.length by rw [← hgd, List.length_map])
  have Kg := hgr.1.len
  unfold maxLen at Kg
  have hlt : g < gs.length := by rw [← Hgl.out]; exact hg
  have hv := List.getElem?_eq_getElem hlt
  generalize gs[g] = u at hv
  obtain ⟨x, hx, hc⟩ := hgr.1.at hv
  have hok := hgr.2 u (List.mem_of_getElem? hv)
  have HD : Hid (rowsAt T g = u.data) := Lib.hid (rows_in (by rw [← hgd, List.getElem?_map, hv]; rfl))
  obtain rfl : ga = some x := hx
  obtain ⟨l0, l1, ⟨a0, cap0⟩, ⟨a1, cap1⟩⟩ := u
  have HC : Hid (Lies w (x.add (g * 2)) [.slice a0 l0.length cap0, .slice a1 l1.length cap1]) := Lib.hid hc
  have HO := Lib.hid hok
  have RS : Hid (repeats T g = (repRow T g 0 l0 || repRow T g 1 l1)) := Lib.hid (by unfold repeats; rw [HD.out]; rfl)
  have AT := Lib.hid (at_iff T)
  have RR : Hid (∀ {k l}, repRow T g k l = false ↔ ∀ i, i < l.length → atOk T g k i (l.getD i 0) = true) := Lib.hid rep_row
  have q104 := S0.out.cell C.out.g
  rw [Hgl.out] at q104
  have Q104 : Hid ((w.alloc (.cells (T.cells ⟨⟨some x, gcap⟩, sd, sr, sb⟩).toArray 32)).cell? ⟨w.heap.size, 104, none⟩ = some (.slice (some x) gs.length gcap)) := Lib.hid q104
  clear ht hgr hgd hv hc hok hsz1 q104 C
  obtain ⟨res, hres⟩ : ∃ r, r = repeats T g := ⟨_, rfl⟩
  rw [← hres]
  have HRES := Lib.hid hres
  clear hres
  generalize hcc : T.cells ⟨⟨some x, gcap⟩, sd, sr, sb⟩ = c at *
  clear hcc
  have hsz : c.toArray.size = 131 := by
    have := S0.out.blk
    have h2 := IA.out
    have h3 : (Tryz.prog.info? 32).map (·.size) = some 131 := infoT
    rw [h3] at h2
    rw [List.size_toArray]; exact (Option.some.inj h2).symm
  go_enter Tryz.func139, Tryz.ntmps139
  go_upto_region 1 with fail
  clear hsz
  generalize w.alloc (.cells c.toArray 32) = w1 at *
  have q104 := Q104.out
  have HC1 := Lib.hid (HC.out.below S0.out.bel)
  have HO1 := Lib.hid (HO.out.below S0.out.bel)
  clear HC HO
  go_wp2_with (refine Row.wpList_load_g 41 _ rfl (by first | rfl | go_simp) (x.add (g * 2)) rfl [.slice a0 l0.length cap0, .slice a1 l1.length cap1] _ HC1.out Tryz.underlying41 rfl info2 ?_)
  clear q104
  go_loopw [18] (fun a wr => ∃ r : Nat, r ≤ 2 ∧ a = .int .i64 r ∧ (0 < r → repRow T g 0 l0 = false) ∧ (1 < r → repRow T g 1 l1 = false) ∧ Below w1.heap.size w1 wr) (fun a _ => 2 - (intOf a).toNat)
  case atStart => exact ⟨0, by omega, rfl, by omega, by omega, Below.refl _ _⟩
  case round =>
    obtain ⟨r, hr, rfl, h0, h1, hB⟩ := hrel
    have H0 := Lib.hid h0
    have H1 := Lib.hid h1
    have HB := Lib.hid hB
    clear h0 h1 hB
    by_cases hr2 : r < 2
    · obtain ⟨l, a, cap, hidx, hrow, hring, hbad⟩ : ∃ (l : List Int) (a : Option Addr) (cap : Nat), (∀ W, Sem.run Tryz.prog (Instr.index 41 (.agg #[.slice a0 l0.length cap0, .slice a1 l1.length cap1]) (.int .i64 r)) W = .ok (.slice a l.length cap) W) ∧ IntRow wr ⟨a, cap⟩ l ∧ (repRow T g r l = false → (0 < r + 1 → repRow T g 0 l0 = false) ∧ (1 < r + 1 → repRow T g 1 l1 = false)) ∧ (repRow T g r l = true → repeats T g = true) := by
        have : r = 0 ∨ r = 1 := by omega
        rcases this with rfl | rfl
        · exact ⟨l0, a0, cap0, fun W => idx0 _ _ W, HO1.out.1.below HB.out, fun e => ⟨fun _ => e, by omega⟩, fun e => by rw [RS.out, e]; rfl⟩
        · exact ⟨l1, a1, cap1, fun W => idx1 _ _ W, HO1.out.2.below HB.out, fun e => ⟨fun _ => H0.out (by omega), fun _ => e⟩, fun e => by rw [RS.out, e]; simp⟩
      have HROW := Lib.hid hrow
      have HRING := Lib.hid hring
      have HBAD := Lib.hid hbad
      have K := hrow.len
      unfold maxLen at K
      clear hrow hring hbad
      go_wp2_with fail
      clear hidx
      go_loopw [24] (fun a' wk => ∃ j : Nat, j ≤ l.length ∧ a' = .int .i64 j ∧ (∀ i, i < j → atOk T g r i (l.getD i 0) = true) ∧ Below wr.heap.size wr wk) (fun a' _ => l.length - (intOf a').toNat)
      case atStart => exact ⟨0, by omega, rfl, (fun i h => by omega), Below.refl _ _⟩
      case round =>
        obtain ⟨j, hj, rfl, hall, hB2⟩ := hrel
        rename World => wk
        have HA := Lib.hid hall
        have HB2 := Lib.hid hB2
        clear hall hB2
        by_cases hjl : j < l.length
        · have hv := List.getElem?_eq_getElem hjl
          generalize hz : l[j] = z at hv
          obtain ⟨y, hy, hp⟩ := IntRow.at (HROW.out.below HB2.out) hv
          obtain rfl : a = some y := hy
          have hgd : l.getD j 0 = z := by rw [List.getD_eq_getElem?_getD, hv]; rfl
          have HGD := Lib.hid hgd
          have LT : Hid (Lies wk ⟨w.heap.size, 0, none⟩ c) := Lib.hid ((LT0.out.below HB.out).below HB2.out)
          have BW : Hid (Below w.heap.size w wk) := Lib.hid (S0.out.bel.trans ((HB.out.trans (HB2.out.mono HB.out.size)).mono S0.out.bel.size))
          clear hv hz hgd
          have hAT := AT.out g r j z
          go_wp2_with (refine Row.wpList_load_g 32 _ rfl (by first | rfl | go_simp) ⟨w.heap.size, 0, none⟩ rfl c _ LT.out Tryz.underlying32 rfl IA.out ?_)
          refine (WH.out z _ BW.out).mono ?_
          rintro e u1 ⟨rfl, hb⟩
          have HB3 : Hid (Below wr.heap.size wr u1) := Lib.hid (HB2.out.trans (hb.mono HB2.out.size))
          have BW1 : Hid (Below w.heap.size w u1) := Lib.hid (BW.out.trans (hb.mono BW.out.size))
          clear hb LT BW HB2
          have HAT := Lib.hid hAT
          clear hAT
          generalize wG (where_ T z) = oG at HAT ⊢
          generalize wK (where_ T z) = oK at HAT ⊢
          generalize wI (where_ T z) = oI at HAT ⊢
          generalize (where_ T z).isSome = oS
          have BAD : Hid (atOk T g r j z = false → true = res) := Lib.hid (fun e => by
            rw [HRES.out]; symm
            refine HBAD.out ?_
            cases hr : repRow T g r l with
            | true => rfl
            | false => rw [RR.out] at hr; have := hr j hjl; rw [HGD.out, e] at this; cases this)
          by_cases e1 : oG = (g : Int)
          · by_cases e2 : oK = (r : Int)
            · by_cases e3 : oI = (j : Int)
              · subst e1 e2 e3
                have OK := Lib.hid (show atOk T g r j z = true by rw [HAT.out]; simp)
                go_wp2
                go_roundw
                case rel => exact ⟨j + 1, by omega, by go_num, (fun i hi => by
                  by_cases e : i = j
                  · subst e; rw [HGD.out]; exact OK.out
                  · exact HA.out i (by omega)), HB3.out⟩
                case measure => simp [intOf]; omega
              · have NO := Lib.hid (BAD.out (by rw [HAT.out]; simp [e3]))
                go_wp2
                go_ret
                exact ⟨ret_bool NO.out, BW1.out⟩
            · have NO := Lib.hid (BAD.out (by rw [HAT.out]; simp [e2]))
              go_wp2
              go_ret
              exact ⟨ret_bool NO.out, BW1.out⟩
          · have NO := Lib.hid (BAD.out (by rw [HAT.out]; simp [e1]))
            go_wp2
            go_ret
            exact ⟨ret_bool NO.out, BW1.out⟩
        · have HE := Lib.hid (HRING.out (by rw [RR.out]; intro i hi; exact HA.out i (by omega)))
          have HB4 := Lib.hid (HB.out.trans (HB2.out.mono HB.out.size))
          go_wp2
          go_roundw
          case rel => exact ⟨r + 1, by omega, by go_num, HE.out.1, HE.out.2, HB4.out⟩
          case measure => simp [intOf]; omega
    · have NO := Lib.hid (show false = res by rw [HRES.out, RS.out, H0.out (by omega), H1.out (by omega)]; rfl)
      have BW1 := Lib.hid (S0.out.bel.trans (HB.out.mono S0.out.bel.size))
      go_wp2
      go_ret
      exact ⟨ret_bool NO.out, BW1.out⟩
end Go.Proofs.YtjolhoilcibdfaaGreat.ChkG
/- The contracts of package check's badGroup and rings. -/
namespace Go.Proofs.YtjolhoilcibdfaaGreat.ChkH
open Go.ChangeShapes Go.WideShapes Go.ChangeAt Go.RowKit
open Tab PlaceM PlanM OnS ChkM ChkA ChkG
open May (ret_bool infoT St)
open Same (below_setRow)
set_option linter.unusedVariables false
set_option linter.unusedSimpArgs false
/-- A Fault as a value: none, or the error at a place. -/
def flt (c : Int) : Option Int → Value
  | none => .agg #[I 0, I 0]
  | some p => .agg #[I c, I p]
theorem infoF : (Tryz.prog.info? 37).map (·.size) = some 2 := by kernel_rfl
set_option maxRecDepth 100000 in
set_option maxHeartbeats 4000000 in
theorem badGroup_any (T : Tab) (h : Hd) (g : Nat) (w : World) (ht : IsTab w h T) (hg : g < T.groups.length) :
    Calls Tryz.prog 110 #[.agg (T.cells h).toArray, .int .i64 g] w fun e w' => e = .returned (.bool (groupBad T g)) ∧ Below w.heap.size w w' := by
  have hsz := (cells_ok ht).size
  have IA : Hid ((Tryz.prog.info? 32).map (·.size) = some (T.cells h).length) := Lib.hid (by rw [List.size_toArray] at hsz; rw [hsz]; exact infoT)
  have ME : Hid (∀ W, Below w.heap.size w W → Calls Tryz.prog 111 #[.agg (T.cells h).toArray, .int .i64 g] W fun e w' => e = .returned (.int .i64 (membS T g : Nat)) ∧ Below W.heap.size W w') := Lib.hid (fun W hb => PlanC.members_any T h g W (ht.below hb))
  have AO : Hid (∀ s W, Below w.heap.size w W → Calls Tryz.prog 115 #[.agg (T.cells h).toArray, .int .i64 s] W fun e w' => e = .returned (.bool (allOn T s)) ∧ Below W.heap.size W w') := Lib.hid (fun s W hb => allOn_any T h s W (ht.below hb))
  have RP : Hid (∀ W, Below w.heap.size w W → Calls Tryz.prog 139 #[.agg (T.cells h).toArray, .int .i64 g] W fun e w' => e = .returned (.bool (repeats T g)) ∧ Below W.heap.size W w') := Lib.hid (fun W hb => repeats_any T h g W (ht.below hb) hg)
  obtain ⟨x, hx⟩ : ∃ x, x = groupBad T g := ⟨_, rfl⟩
  rw [← hx]
  have HR : Hid (x = (membS T g == 0 || (!allOn T (membS T g : Nat) || repeats T g))) := Lib.hid hx
  have A0 : Hid (Below w.heap.size w (w.alloc (.cells (T.cells h).toArray 32))) := Lib.hid ((Below.refl _ _).alloc (Nat.le_refl _) _)
  have A1 := Lib.hid (Row.lies_new w (T.cells h).toArray 32)
  generalize membS T g = m at HR ME
  generalize repeats T g = rp at HR RP
  clear hx ht hg
  generalize T.cells h = c at *
  go_enter Tryz.func110, Tryz.ntmps110
  go_upto_region 1 with fail
  generalize w.alloc (.cells c.toArray 32) = u at A0 A1 ⊢
  clear hsz
  go_wp2_with (refine Row.wpList_load_g 32 _ rfl (by first | rfl | go_simp) ⟨w.heap.size, 0, none⟩ rfl c _ A1.out Tryz.underlying32 rfl IA.out ?_)
  refine (ME.out _ A0.out).mono ?_
  rintro e u1 ⟨rfl, hb⟩
  have B0 : Hid (Below w.heap.size w u1) := Lib.hid (A0.out.trans (hb.mono A0.out.size))
  have B1 := Lib.hid (A1.out.below hb)
  clear hb A0 A1 ME
  by_cases hm : m = 0
  · have HR2 : Hid (true = x) := Lib.hid (by rw [HR.out, hm]; rfl)
    rw [hm, show (((0 : Nat) : Int)) = (0 : Int) from rfl]
    clear hm
    go_wp2
    go_ret
    exact ⟨ret_bool HR2.out, B0.out⟩
  have HM : ((m : Int) == 0) = false := by rw [beq_eq_false_iff_ne]; omega
  have HR2 : Hid (x = (!allOn T (m : Nat) || rp)) := Lib.hid (by rw [HR.out, show (m == 0) = false by rw [beq_eq_false_iff_ne]; exact hm]; rfl)
  have HMi : Hid (¬ ((m : Nat) : Int) = 0) := Lib.hid (by omega)
  clear HR hm
  generalize ((m : Nat) : Int) = mi at HM HMi HR2 ⊢
  have hmi := HMi.out
  have HMb := Lib.hid HM
  have AO2 := Lib.hid (AO.out mi)
  clear AO HM
  generalize allOn T mi = ao at AO2 HR2
  go_wp2_with (refine Row.wpList_load_g 32 _ rfl (by first | rfl | go_simp) ⟨w.heap.size, 0, none⟩ rfl c _ B1.out Tryz.underlying32 rfl IA.out ?_)
  refine (AO2.out _ B0.out).mono ?_
  rintro e u2 ⟨rfl, hb⟩
  have A0 : Hid (Below w.heap.size w u2) := Lib.hid (B0.out.trans (hb.mono B0.out.size))
  have A1 := Lib.hid (B1.out.below hb)
  clear hb B0 B1 AO2 hmi
  cases ao with
  | false =>
    have HR3 : Hid (true = x) := Lib.hid (by rw [HR2.out]; rfl)
    go_wp2
    go_ret
    exact ⟨ret_bool HR3.out, A0.out⟩
  | true =>
    have HR3 : Hid (rp = x) := Lib.hid (by rw [HR2.out]; rfl)
    go_wp2_with (refine Row.wpList_load_g 32 _ rfl (by first | rfl | go_simp) ⟨w.heap.size, 0, none⟩ rfl c _ A1.out Tryz.underlying32 rfl IA.out ?_)
    refine (RP.out _ A0.out).mono ?_
    rintro e u3 ⟨rfl, hb⟩
    have B0 : Hid (Below w.heap.size w u3) := Lib.hid (A0.out.trans (hb.mono A0.out.size))
    clear hb A0 A1
    go_wp2
    go_ret
    exact ⟨ret_bool (by rw [HMb.out]; exact HR3.out), B0.out⟩
theorem find_none {f : Nat → Bool} {n : Nat} (h : ∀ j, j < n → f j = false) : (List.range n).find? f = none := range_miss h
theorem placed_lt (T : Tab) : ∀ g, placed T g < 256
  | 0 => by unfold placed; decide
  | g + 1 => Nat.or_lt_two_pow (n := 8) (placed_lt T g) (memb_lt T g)
/-- The Fault's cells. -/
def fltC (c : Int) : Option Int → Array Value
  | none => #[I 0, I 0]
  | some p => #[I c, I p]
theorem flt_agg (c : Int) (o : Option Int) : flt c o = .agg (fltC c o) := by cases o <;> rfl
set_option maxRecDepth 100000 in
set_option maxHeartbeats 4000000 in
theorem rings_any (T : Tab) (h : Hd) (w : World) (ht : IsTab w h T) :
    Calls Tryz.prog 76 #[.agg (T.cells h).toArray] w fun e w' => e = .returned (flt 8 (ringsC T)) ∧ Below w.heap.size w w' := by
  have hsz := (cells_ok ht).size
  have C := Lib.hid (cells_ok ht)
  have IA : Hid ((Tryz.prog.info? 32).map (·.size) = some (T.cells h).length) := Lib.hid (by rw [List.size_toArray] at hsz; rw [hsz]; exact infoT)
  have ON : Hid (∀ W, Below w.heap.size w W → Calls Tryz.prog 96 #[.agg (T.cells h).toArray] W fun e w' => e = .returned (.int .i64 (onS T : Nat)) ∧ Below W.heap.size W w') := Lib.hid (fun W hb => PlanO.pon_any T h W (ht.below hb))
  have ME : Hid (∀ (g : Nat) W, Below w.heap.size w W → Calls Tryz.prog 111 #[.agg (T.cells h).toArray, .int .i64 g] W fun e w' => e = .returned (.int .i64 (membS T g : Nat)) ∧ Below W.heap.size W w') := Lib.hid (fun g W hb => PlanC.members_any T h g W (ht.below hb))
  have BG : Hid (∀ (g : Nat) W, g < T.groups.length → Below w.heap.size w W → Calls Tryz.prog 110 #[.agg (T.cells h).toArray, .int .i64 g] W fun e w' => e = .returned (.bool (groupBad T g)) ∧ Below W.heap.size W w') := Lib.hid (fun g W hg hb => badGroup_any T h g W (ht.below hb) hg)
  have A0 : Hid (Below w.heap.size w ((w.alloc (.cells (T.cells h).toArray 32)).alloc (.cells #[.int .i64 0, .int .i64 0] 37))) := Lib.hid (((Below.refl _ _).alloc (Nat.le_refl _) _).alloc (by simp) _)
  have A1 : Hid (Lies ((w.alloc (.cells (T.cells h).toArray 32)).alloc (.cells #[.int .i64 0, .int .i64 0] 37)) ⟨w.heap.size, 0, none⟩ (T.cells h)) := Lib.hid ((Row.lies_new w _ _).below ((Below.refl _ _).alloc (Nat.le_refl _) _))
  have A2 : Hid (((w.alloc (.cells (T.cells h).toArray 32)).alloc (.cells #[.int .i64 0, .int .i64 0] 37)).heap[w.heap.size + 1]? = some (.cells #[.int .i64 0, .int .i64 0] 37 (0, 0))) := Lib.hid (heap_alloc2_new w _ _)
  have q104 := (((Row.lies_new w (T.cells h).toArray 32).below ((Below.refl _ _).alloc (Nat.le_refl _) (.cells #[.int .i64 0, .int .i64 0] 37))) 104 _ ((Array.getElem?_toList ..).trans C.out.g) : ((w.alloc (.cells (T.cells h).toArray 32)).alloc (.cells #[.int .i64 0, .int .i64 0] 37)).cell? ((⟨w.heap.size, 0, none⟩ : Addr).add 104) = _)
  have q104 : ((w.alloc (.cells (T.cells h).toArray 32)).alloc (.cells #[.int .i64 0, .int .i64 0] 37)).cell? ⟨w.heap.size, 104, none⟩ = some (.slice h.g.a T.groups.length h.g.cap) := q104
  have Kg : T.groups.length ≤ maxLen := by
    obtain ⟨gs, hgd, hgr⟩ := ht.groups
    have := hgr.1.len
    rw [← hgd, List.length_map]; omega
  unfold maxLen at Kg
  have RC : Hid (ringsC T = _) := Lib.hid (by unfold ringsC; rfl)
  have LT := Lib.hid (placed_lt T)
  have ML := Lib.hid (memb_lt T)
  obtain ⟨o, ho⟩ : ∃ o, o = ringsC T := ⟨_, rfl⟩
  rw [← ho, flt_agg] 
  rw [← ho] at RC
  clear ho ht C
  generalize hn : T.groups.length = n at *
  have HN := Lib.hid hn
  clear hn
  generalize h.g.cap = gcap at *
  generalize h.g.a = ga at *
  generalize T.cells h = c at *
  go_enter Tryz.func76, Tryz.ntmps76
  go_upto_region 1 with fail
  generalize ((w.alloc (.cells c.toArray 32)).alloc (.cells #[.int .i64 0, .int .i64 0] 37)) = u at A0 A1 A2 q104 ⊢
  clear hsz
  by_cases hz : n = 0
  · subst hz
    have RO : Hid (o = some 0) := Lib.hid (by rw [RC.out]; rfl)
    clear RC
    have HW := Lib.hid (below_setRow A0.out (g := w.heap.size + 1) (by omega) #[I 8, I 0])
    have HK := Lib.hid (setRow_heap u (w.heap.size + 1) _ #[I 8, I 0] _ _ A2.out)
    go_wp2_with (first | (refine wpList_store_row rfl 37 _ _ rfl (w.heap.size + 1) #[I 8, I 0] rfl rfl 37 _ A2.out infoF rfl (by simp [Value.oneCell']) ?_))
    generalize u.setRow (w.heap.size + 1) #[I 8, I 0] = uz at HW HK ⊢
    (try go_wp2_with fail)
    (try simp only [Exit.inBlock, Exit.then])
    refine bodyPost_ret (v := .agg #[I 8, I 0]) ?_ rfl ⟨by rw [RO.out]; rfl, HW.out⟩
    exact results_cell_row rfl _ _ (w.heap.size + 1) 37 _ (0, 0) _ rfl HK.out Tryz.underlying37 rfl infoF
  · have HZ : Hid (¬ n = 0) := Lib.hid hz
    have hzi : ((n : Int) == 0) = false := by rw [beq_eq_false_iff_ne]; omega
    have hzj : ¬ ((n : Int) = 0) := by omega
    rw [if_neg hz] at RC
    clear hz
    go_wp2_with fail
    clear hzi hzj q104
    go_loopw [3, 13] (fun s a wr => ∃ q : Nat, q ≤ n ∧ s = .int .i64 (placed T q : Nat) ∧ a = .int .i64 q ∧ (∀ j, j < q → groupBad T j = false) ∧ Below u.heap.size u wr) (fun _ a _ => n - (intOf a).toNat)
    case atStart => exact ⟨0, by omega, rfl, rfl, (fun j h => by omega), Below.refl _ _⟩
    case round =>
      obtain ⟨q, hq, rfl, rfl, hall, hB⟩ := hrel
      have HA := Lib.hid hall
      have B0 : Hid (Below w.heap.size w wr) := Lib.hid (A0.out.trans (hB.mono A0.out.size))
      have B1 := Lib.hid (A1.out.below hB)
      have B2 : Hid (wr.heap[w.heap.size + 1]? = some (.cells #[.int .i64 0, .int .i64 0] 37 (0, 0))) := Lib.hid ((hB.block _ (Array.getElem?_eq_some_iff.1 A2.out).1).trans A2.out)
      have B3 := Lib.hid hB
      clear hall hB
      by_cases hlt : q < n
      · go_wp2_with (refine Row.wpList_load_g 32 _ rfl (by first | rfl | go_simp) ⟨w.heap.size, 0, none⟩ rfl c _ B1.out Tryz.underlying32 rfl IA.out ?_)
        refine (BG.out q _ hlt B0.out).mono ?_
        rintro e u1 ⟨rfl, hb⟩
        have C0 : Hid (Below w.heap.size w u1) := Lib.hid (B0.out.trans (hb.mono B0.out.size))
        have C1 := Lib.hid (B1.out.below hb)
        have C2 : Hid (u1.heap[w.heap.size + 1]? = some (.cells #[.int .i64 0, .int .i64 0] 37 (0, 0))) := Lib.hid ((hb.block _ (Array.getElem?_eq_some_iff.1 B2.out).1).trans B2.out)
        have C3 := Lib.hid (B3.out.trans (hb.mono B3.out.size))
        clear hb B0 B1 B2 B3
        cases hgb : groupBad T q with
        | true =>
          have RO : Hid (o = some (q : Int)) := Lib.hid (by rw [RC.out, range_hit hlt hgb HA.out])
          clear hgb
          have HW := Lib.hid (below_setRow C0.out (g := w.heap.size + 1) (by omega) #[I 8, I q])
          have HK := Lib.hid (setRow_heap u1 (w.heap.size + 1) _ #[I 8, I q] _ _ C2.out)
          go_wp2_with (first | (refine wpList_store_row rfl 37 _ _ rfl (w.heap.size + 1) #[I 8, I q] rfl rfl 37 _ C2.out infoF rfl (by simp [Value.oneCell']) ?_))
          generalize u1.setRow (w.heap.size + 1) #[I 8, I q] = uz at HW HK ⊢
          (try go_wp2_with fail)
          (try simp only [Exit.inBlock, Exit.then])
          refine bodyPost_ret (v := .agg #[I 8, I q]) ?_ rfl ⟨by rw [RO.out]; rfl, HW.out⟩
          exact results_cell_row rfl _ _ (w.heap.size + 1) 37 _ (0, 0) _ rfl HK.out Tryz.underlying37 rfl infoF
        | false =>
          have HG := Lib.hid hgb
          clear hgb
          go_wp2_with (refine Row.wpList_load_g 32 _ rfl (by first | rfl | go_simp) ⟨w.heap.size, 0, none⟩ rfl c _ C1.out Tryz.underlying32 rfl IA.out ?_)
          refine (ME.out q _ C0.out).mono ?_
          rintro e u2 ⟨rfl, hb⟩
          have D3 := Lib.hid (C3.out.trans (hb.mono C3.out.size))
          have OR : Hid (bits .or .i64 (placed T q : Nat) (membS T q : Nat) = (placed T (q + 1) : Nat)) := Lib.hid (RefS.or_small _ _ (LT.out _) (ML.out _))
          clear hb C0 C1 C2 C3
          generalize membS T q = mq at OR ⊢
          generalize placed T q = pq at OR ⊢
          go_wp2
          go_roundw
          case rel => exact ⟨q + 1, by omega, by rw [OR.out], by go_num, (fun j hj => by
            by_cases e : j = q
            · subst e; exact HG.out
            · exact HA.out j (by omega)), D3.out⟩
          case measure => simp [intOf]; omega
      · have hqn : q = n := by omega
        have RC2 : Hid (o = if bits .andNot .i64 (onS T : Nat) (placed T n : Nat) = 0 then none else some 0) := Lib.hid (by rw [RC.out, find_none (fun j hj => HA.out j (by omega))])
        rw [hqn]
        clear RC hlt hqn hq HA
        go_wp2_with (refine Row.wpList_load_g 32 _ rfl (by first | rfl | go_simp) ⟨w.heap.size, 0, none⟩ rfl c _ B1.out Tryz.underlying32 rfl IA.out ?_)
        refine (ON.out _ B0.out).mono ?_
        rintro e u1 ⟨rfl, hb⟩
        have C0 : Hid (Below w.heap.size w u1) := Lib.hid (B0.out.trans (hb.mono B0.out.size))
        have C2 : Hid (u1.heap[w.heap.size + 1]? = some (.cells #[.int .i64 0, .int .i64 0] 37 (0, 0))) := Lib.hid ((hb.block _ (Array.getElem?_eq_some_iff.1 B2.out).1).trans B2.out)
        clear hb B0 B1 B2 B3
        generalize placed T n = pq at RC2 ⊢
        generalize onS T = m at RC2 ⊢
        by_cases hz : bits .andNot .i64 (m : Int) (pq : Int) = 0
        · have RO : Hid (o = none) := Lib.hid (by rw [RC2.out, if_pos hz])
          have HW := Lib.hid (below_setRow C0.out (g := w.heap.size + 1) (by omega) #[I 0, I 0])
          have HK := Lib.hid (setRow_heap u1 (w.heap.size + 1) _ #[I 0, I 0] _ _ C2.out)
          go_wp2_with (first | (refine wpList_store_row rfl 37 _ _ rfl (w.heap.size + 1) #[I 0, I 0] rfl rfl 37 _ C2.out infoF rfl (by simp [Value.oneCell']) ?_))
          generalize u1.setRow (w.heap.size + 1) #[I 0, I 0] = uz at HW HK ⊢
          (try go_wp2_with fail)
          (try simp only [Exit.inBlock, Exit.then])
          refine bodyPost_ret (v := .agg #[I 0, I 0]) ?_ rfl ⟨by rw [RO.out]; rfl, HW.out⟩
          exact results_cell_row rfl _ _ (w.heap.size + 1) 37 _ (0, 0) _ rfl HK.out Tryz.underlying37 rfl infoF
        · have RO : Hid (o = some 0) := Lib.hid (by rw [RC2.out, if_neg hz])
          have HW := Lib.hid (below_setRow C0.out (g := w.heap.size + 1) (by omega) #[I 8, I 0])
          have HK := Lib.hid (setRow_heap u1 (w.heap.size + 1) _ #[I 8, I 0] _ _ C2.out)
          go_wp2_with (first | (refine wpList_store_row rfl 37 _ _ rfl (w.heap.size + 1) #[I 8, I 0] rfl rfl 37 _ C2.out infoF rfl (by simp [Value.oneCell']) ?_))
          generalize u1.setRow (w.heap.size + 1) #[I 8, I 0] = uz at HW HK ⊢
          (try go_wp2_with fail)
          (try simp only [Exit.inBlock, Exit.then])
          refine bodyPost_ret (v := .agg #[I 8, I 0]) ?_ rfl ⟨by rw [RO.out]; rfl, HW.out⟩
          exact results_cell_row rfl _ _ (w.heap.size + 1) 37 _ (0, 0) _ rfl HK.out Tryz.underlying37 rfl infoF
end Go.Proofs.YtjolhoilcibdfaaGreat.ChkH
/- The contract of the document's own rings. -/
namespace Go.Proofs.YtjolhoilcibdfaaGreat.RkR
open Go.ChangeShapes Go.WideShapes Go.ChangeAt Go.RowKit
open Tab PlaceM PlanM OnS ChkM ChkH
open ChkB (laid2)
open Same (below_setRow)
open Where (infoS)
open RefS (rhas_any rwith_any)
open May (ret_bool infoT)
set_option linter.unusedVariables false
set_option linter.unusedSimpArgs false
end Go.Proofs.YtjolhoilcibdfaaGreat.RkR
/- Rule 3 of package check and of the document are one; so are their Faults. No program in it. -/
namespace Go.Proofs.YtjolhoilcibdfaaGreat.ChkZ
open Go Tab PlaceM PlanM OnS May ChkM ChkX
open PlanW (where_some)
set_option linter.unusedVariables false
set_option linter.unusedSimpArgs false
/-- The places of a group, and their phases. -/
def inG (T : Tab) (g : Nat) : List Spt := (spots T).filter fun x => decide ((x.g : Int) = g)
def phG (T : Tab) (g : Nat) : List Int := (inG T g).map Spt.p
theorem memb_eq (T : Tab) (g : Nat) : SetM.of (phG T g) = membS T g := memb_spots T g
theorem mem_inG {T : Tab} {g : Nat} {x : Spt} : x ∈ inG T g ↔ x ∈ spots T ∧ x.g = g := by
  unfold inG
  rw [List.mem_filter, decide_eq_true_eq]
  constructor
  · rintro ⟨h1, h2⟩; exact ⟨h1, by omega⟩
  · rintro ⟨h1, h2⟩; exact ⟨h1, by omega⟩
theorem spot_range {T : Tab} {x : Spt} (h : x ∈ spots T) : 0 ≤ x.p ∧ x.p < 8 := by obtain ⟨_, _, _, h1, h2⟩ := mem_spots.1 h; exact ⟨h1, h2⟩
theorem ph_range {T : Tab} {g : Nat} {p : Int} (h : p ∈ phG T g) : 0 ≤ p ∧ p < 8 := by
  obtain ⟨x, hx, rfl⟩ := List.mem_map.1 h
  exact spot_range (mem_inG.1 hx).1
theorem has_memb {T : Tab} {g : Nat} {q : Int} : SetM.has (membS T g : Nat) q = true ↔ q ∈ phG T g := by
  rw [← memb_eq, has_of]
  constructor
  · rintro ⟨_, _, h⟩; exact h
  · intro h; have := ph_range h; exact ⟨this.1, this.2, h⟩
theorem has_or {m n : Nat} (hm : m < 256) (hn : n < 256) {q : Int} : SetM.has ((m ||| n : Nat) : Int) q = true ↔ SetM.has (m : Int) q = true ∨ SetM.has (n : Int) q = true := by
  have hmn : m ||| n < 256 := Nat.or_lt_two_pow (n := 8) hm hn
  rw [has_bits, has_bits, has_bits, SetM.low_nat _ hmn, SetM.low_nat _ hm, SetM.low_nat _ hn, Nat.testBit_or, Bool.or_eq_true]
  constructor
  · rintro ⟨h1, h2, h3 | h3⟩
    · exact .inl ⟨h1, h2, h3⟩
    · exact .inr ⟨h1, h2, h3⟩
  · rintro (⟨h1, h2, h3⟩ | ⟨h1, h2, h3⟩)
    · exact ⟨h1, h2, .inl h3⟩
    · exact ⟨h1, h2, .inr h3⟩
theorem has_placed {T : Tab} {q : Int} : ∀ g, SetM.has (placed T g : Nat) q = true ↔ ∃ y ∈ spots T, y.g < g ∧ y.p = q
  | 0 => by
    constructor
    · intro h; have := (has_bits.1 h).2.2; rw [show ((placed T 0 : Nat) : Int) = ((0 : Nat) : Int) from rfl, SetM.low_nat 0 (by decide), Nat.zero_testBit] at this; cases this
    · rintro ⟨y, _, h, _⟩; omega
  | g + 1 => by
    rw [show placed T (g + 1) = placed T g ||| membS T g from rfl, has_or (ChkH.placed_lt T g) (memb_lt T g), has_placed g, has_memb]
    constructor
    · rintro (⟨y, h1, h2, h3⟩ | h)
      · exact ⟨y, h1, by omega, h3⟩
      · obtain ⟨y, hy, rfl⟩ := List.mem_map.1 h
        obtain ⟨h1, h2⟩ := mem_inG.1 hy
        exact ⟨y, h1, by omega, rfl⟩
    · rintro ⟨y, h1, h2, h3⟩
      by_cases h4 : y.g < g
      · exact .inl ⟨y, h1, h4, h3⟩
      · exact .inr (List.mem_map.2 ⟨y, mem_inG.2 ⟨h1, by omega⟩, h3⟩)
/-! ### the document's walk through a group -/
/-! ### first places -/
theorem Lt.asymm {x y : Spt} (h : Lt x y) (k : Lt y x) : False := by unfold Lt at h k; omega
theorem where_first {T : Tab} {x y : Spt} (hw : where_ T x.p = some x) (hy : y ∈ spots T) (hp : y.p = x.p) : ¬ Lt y x := by
  intro hl
  unfold where_ find at hw
  have hs := spots_sorted T
  rw [List.find?_eq_some_iff_append] at hw
  obtain ⟨_, l1, l2, e, h1⟩ := hw
  rw [e] at hy hs
  rcases List.mem_append.1 hy with hy | hy
  · have := h1 y hy
    rw [hp] at this
    simp at this
  · rcases List.mem_cons.1 hy with rfl | hy
    · exact Lt.irrefl hl
    · have := (List.pairwise_append.1 hs).2.1
      exact Lt.asymm hl ((List.pairwise_cons.1 this).1 y hy)
theorem at_some {T : Tab} {x : Spt} (hx : x ∈ spots T) : (at0 (where_ T x.p) = (x.g, x.k, x.i)) ↔ where_ T x.p = some x := by
  constructor
  · intro h
    cases hw : where_ T x.p with
    | none =>
      exfalso
      unfold where_ find at hw
      rw [List.find?_eq_none] at hw
      exact hw x hx (by simp)
    | some y =>
      rw [hw] at h
      unfold where_ find at hw
      have hp : y.p = x.p := by simpa using List.find?_some hw
      obtain ⟨yg, yk, yi, yp⟩ := y
      obtain ⟨xg, xk, xi, xp⟩ := x
      simp only [at0, Prod.mk.injEq] at h
      obtain ⟨h1, h2, h3⟩ := h
      subst h1 h2 h3
      simp only at hp
      rw [hp]
  · intro h; rw [h]; rfl
theorem rows_at {T : Tab} {g : Nat} (hg : g < T.groups.length) : rowsAt T g = T.groups[g] := rows_in (List.getElem?_eq_getElem hg)
/-- Each place of a row within its ranges is a spot. -/
theorem spot_of {T : Tab} (h : InR T) {g k i : Nat} (hg : g < T.groups.length) (hk : k < 2) (hi : i < (ringOf (rowsAt T g) k).length) : (⟨g, k, i, (ringOf (rowsAt T g) k).getD i 0⟩ : Spt) ∈ spots T := by
  have hm := h.gr _ (List.getElem_mem hg)
  unfold groupMay rowMay at hm
  simp only [Bool.and_eq_true, allIn_iff] at hm
  rw [mem_spots]
  refine ⟨T.groups[g], List.getElem?_eq_getElem hg, ?_⟩
  rw [rows_at hg] at hi ⊢
  simp only
  have he : (ringOf T.groups[g] k)[i]? = some ((ringOf T.groups[g] k).getD i 0) := by rw [List.getD_eq_getElem?_getD, List.getElem?_eq_getElem hi]; rfl
  refine ⟨he, ?_⟩
  have hmem : (ringOf T.groups[g] k).getD i 0 ∈ ringOf T.groups[g] k := List.mem_of_getElem? he
  have h01 : k = 0 ∨ k = 1 := by omega
  rcases h01 with rfl | rfl
  · have := hm.1.2 _ hmem; omega
  · have := hm.2.2 _ hmem; omega
theorem rep_iff {T : Tab} (h : InR T) {g : Nat} (hg : g < T.groups.length) : repeats T g = false ↔ ∀ x ∈ inG T g, where_ T x.p = some x := by
  unfold repeats
  rw [Bool.or_eq_false_iff, ChkG.rep_row, ChkG.rep_row]
  constructor
  · rintro ⟨h0, h1⟩ x hx
    obtain ⟨hs, hxg⟩ := mem_inG.1 hx
    rw [← at_some hs]
    obtain ⟨y, hy, hr, _⟩ := mem_spots.1 hs
    have hry : rowsAt T (x.g : Nat) = y := rows_in hy
    rw [hxg] at hry
    have hlt := (List.getElem?_eq_some_iff.1 hr).1
    have hk : x.k = 0 ∨ x.k = 1 := by
      unfold ringOf at hr
      by_cases e0 : x.k = 0
      · exact .inl e0
      · by_cases e1 : x.k = 1
        · exact .inr e1
        · rw [if_neg e0, if_neg e1] at hr; simp at hr
    have hv : (ringOf y x.k).getD x.i 0 = x.p := by rw [List.getD_eq_getElem?_getD, hr]; rfl
    rcases hk with e | e
    · rw [e] at hlt hv
      have := h0 x.i (by rw [hry]; exact hlt)
      unfold ChkG.atOk at this
      rw [beq_iff_eq, hry, show y.1.getD x.i 0 = x.p from hv] at this
      rw [this, hxg, e]
    · rw [e] at hlt hv
      have := h1 x.i (by rw [hry]; exact hlt)
      unfold ChkG.atOk at this
      rw [beq_iff_eq, hry, show y.2.getD x.i 0 = x.p from hv] at this
      rw [this, hxg, e]
  · intro hall
    constructor
    · intro i hi
      have hs := spot_of h hg (k := 0) (by omega) hi
      have := (at_some hs).2 (hall _ (mem_inG.2 ⟨hs, rfl⟩))
      unfold ChkG.atOk
      rw [beq_iff_eq]
      exact this
    · intro i hi
      have hs := spot_of h hg (k := 1) (by omega) hi
      have := (at_some hs).2 (hall _ (mem_inG.2 ⟨hs, rfl⟩))
      unfold ChkG.atOk
      rw [beq_iff_eq]
      exact this
theorem inj_of {A : List Spt} : (A.map Spt.p).Nodup → ∀ {x y : Spt}, x ∈ A → y ∈ A → x.p = y.p → x = y := by
  induction A with
  | nil => intro _ x y hx; cases hx
  | cons a A ih =>
    intro hn x y hx hy hp
    rw [List.map_cons, List.nodup_cons] at hn
    rcases List.mem_cons.1 hx with hx | hx
    · rcases List.mem_cons.1 hy with hy | hy
      · rw [hx, hy]
      · exact absurd (List.mem_map.2 ⟨y, hy, by rw [← hp, hx]⟩) hn.1
    · rcases List.mem_cons.1 hy with hy | hy
      · exact absurd (List.mem_map.2 ⟨x, hx, by rw [hp, hy]⟩) hn.1
      · exact ih hn.2 hx hy hp
theorem first_iff {T : Tab} (g : Nat) : (∀ x ∈ inG T g, where_ T x.p = some x) ↔ (phG T g).Nodup ∧ ∀ p ∈ phG T g, SetM.has (placed T g : Nat) p = false := by
  constructor
  · intro h
    constructor
    · unfold phG List.Nodup
      rw [List.pairwise_map]
      have hs : (inG T g).Pairwise Lt := (spots_sorted T).sublist List.filter_sublist
      refine List.Pairwise.imp_of_mem (fun {y x} hy hx hl e => ?_) hs
      exact where_first (h x hx) (mem_inG.1 hy).1 e hl
    · intro p hp
      obtain ⟨x, hx, rfl⟩ := List.mem_map.1 hp
      cases e : SetM.has (placed T g : Nat) x.p with
      | false => rfl
      | true =>
        exfalso
        obtain ⟨y, h1, h2, h3⟩ := (has_placed g).1 e
        exact where_first (h x hx) h1 h3 (.inl (by rw [(mem_inG.1 hx).2]; exact h2))
  · rintro ⟨hn, hp⟩ x hx
    obtain ⟨hs, hxg⟩ := mem_inG.1 hx
    refine where_some hs rfl (fun y hy hl e => ?_)
    rcases hl with hl | ⟨hl, hl2⟩
    · have := hp x.p (List.mem_map.2 ⟨x, hx, rfl⟩)
      rw [(has_placed g).2 ⟨y, hy, by omega, e⟩] at this
      cases this
    · have hyx := inj_of hn (mem_inG.2 ⟨hy, by omega⟩) hx e
      subst hyx
      omega
theorem of_zero {l : List Int} (hr : ∀ p ∈ l, 0 ≤ p ∧ p < 8) : SetM.of l = 0 ↔ l = [] := by
  constructor
  · intro h
    cases l with
    | nil => rfl
    | cons p l =>
      exfalso
      have hp := hr p (List.mem_cons_self ..)
      exact (low_ne (SetM.of_lt (p :: l))).2 ⟨p, has_of.2 ⟨hp.1, hp.2, List.mem_cons_self ..⟩⟩ h
  · rintro rfl; rfl
theorem group_iff {T : Tab} (h : InR T) {g : Nat} (hg : g < T.groups.length) : groupBad T g = false ↔
    phG T g ≠ [] ∧ (∀ p ∈ phG T g, SetM.has (onS T : Nat) p = true) ∧ (phG T g).Nodup ∧ ∀ p ∈ phG T g, SetM.has (placed T g : Nat) p = false := by
  unfold groupBad
  rw [Bool.or_eq_false_iff, Bool.or_eq_false_iff, rep_iff h hg, first_iff, beq_eq_false_iff_ne, Bool.not_eq_false', allOn_iff (by have := memb_lt T g; omega), ← memb_eq, ne_eq, of_zero (fun p hp => ph_range hp)]
  rw [memb_eq]
  simp only [has_memb]
/-! ### all rules -/
end Go.Proofs.YtjolhoilcibdfaaGreat.ChkZ
/- The table by numbers has no Fault (stage 9): its groups. No program in it. -/
namespace Go.Proofs.YtjolhoilcibdfaaGreat.Val
open Go Tab GenG GenT PlaceM PlanM OnS ChkM Clone May
open RefS (num num_range)
open ChkX (in_ranges InR)
open ChkZ
set_option linter.unusedVariables false
set_option linter.unusedSimpArgs false
end Go.Proofs.YtjolhoilcibdfaaGreat.Val
/- The table by numbers has no Fault (stage 9): its rails, and so all. No program in it. -/
namespace Go.Proofs.YtjolhoilcibdfaaGreat.Val
open Go Tab GenG GenT PlaceM PlanM OnS ChkM Clone May
open RefS (num num_range)
open ChkX (has_bits and_ne low_in allOn_iff andNot_eq not_bit low_ne)
set_option linter.unusedVariables false
set_option linter.unusedSimpArgs false
end Go.Proofs.YtjolhoilcibdfaaGreat.Val
