/- 2 texts in one file, in build order. -/
import Derived.Test.YtjgpljnbeolapaaPart02
import Derived.Test.YtjgpljnbeolapaaPart08
import Derived.Test.YtjgpljnbeolapaaPart04
set_option linter.unusedVariables false
set_option linter.unusedSimpArgs false
set_option linter.unusedSectionVars false
set_option maxHeartbeats 8000000
set_option maxRecDepth 100000
namespace Go.Proofs.Ytjgpljnbeolapaa
namespace Rg
open Go Go.ChangeShapes Go.WideShapes Go.ChangeAt Go.RowKit
open Tab Flat TabArg QL Ru PlanM
open ChkM (cfAt)
open Clear (phAt)
open PlaceM (where_ spots Spt)
open May (infoP)
theorem oc_eq (T : Tab) (p : Int) : ∃ (g k i pp : Int) (ok : Bool), PlanW.Tup (where_ T p) = .tuple #[I g, I k, I i, .bool ok] ∧ (Where.oCells (where_ T p)).toArray = #[I g, I k, I i, I pp] ∧ (where_ T p).isSome = ok := by
  cases where_ T p with
  | none => exact ⟨0, 0, 0, 0, false, rfl, rfl, rfl⟩
  | some x => exact ⟨x.g, x.k, x.i, x.p, true, rfl, rfl, rfl⟩
theorem cell_heap {W w : World} {x : Addr} {i : Nat} (h : W.heap[x.block]? = w.heap[x.block]?) : W.cell? (x.add i) = w.cell? (x.add i) := by
  have e : (x.add i).block = x.block := by unfold Addr.add; split <;> rfl
  unfold World.cell?
  rw [e, h]
theorem infoSp : (Try.prog.info? 87).map (·.size) = some 4 := by kernel_rfl
theorem list_nil {s : Int} (h : (SetM.list s).length = 0) : SetM.first s = -1 := by
  unfold SetM.first
  rw [List.length_eq_zero_iff.1 h]; rfl
theorem list_first {s : Int} {p : Int} (h : (SetM.list s)[0]? = some p) : SetM.first s = p := by
  unfold SetM.first
  cases e : SetM.list s with
  | nil => rw [e] at h; simp at h
  | cons a l => rw [e] at h; simpa using h
theorem where_neg (T : Tab) : where_ T (-1) = none := PlaceM.find_none (fun x hx e => by
  have := (mem_ringAt.1 hx).2
  omega)
theorem rput_any (T : Tab) (hd : Hd) (exit : Int) (w : World) (ht : IsTab w hd T) (sm : PlaceM.Few T) : Calls Try.prog 9 #[.agg (T.cells hd).toArray, .int .i64 exit] w fun e w' => e = .returned (.agg (Rg.cells (putS T exit)).toArray) ∧ Below w.heap.size w w' := by
  have h1 : (T.cells hd).length = 131 := by have := (cells_ok ht).size; rwa [List.size_toArray] at this
  have IA : (Try.prog.info? 32).map (·.size) = some (T.cells hd).length := by rw [h1]; exact PlanW.infoT
  have hz := (zero_of_info (show (Try.prog.info? 36).map (fun i => (i.zero, i.size)) = some (some (.agg #[I 0, I 0, I 0, .bool false]), 4) by kernel_rfl)).1
  have WH : Hid (∀ p W, Below w.heap.size w W → ∃ g k i pp ok, (∀ r, putF T r p = if ok = true ∧ g = r.g ∧ (if k = 0 then r.a0 else r.a1) < 0 then (if k = 0 then ⟨r.g, i, r.a1, r.cr⟩ else ⟨r.g, r.a0, i, r.cr⟩) else r) ∧ (k = 0 ∨ k = 1) ∧ PlanW.wG (where_ T p) = g ∧ Calls Try.prog 34 #[.agg (T.cells hd).toArray, .int .i64 p] W fun e w' => e = .returned (.tuple #[.agg #[I g, I k, I i, I pp], .bool ok]) ∧ Below W.heap.size W w') := Lib.hid (fun p W hb => by
    obtain ⟨g, k, i, pp, ok, e1, e2, e3⟩ := oc_eq T p
    refine ⟨g, k, i, pp, ok, fun r => putF_eq T r p e1, tup_k T p e1, ?_, ?_⟩
    · simp only [PlanW.Tup, Value.tuple.injEq, List.toArray, Array.mk.injEq, List.cons.injEq, Value.int.injEq, Value.bool.injEq, true_and, and_true] at e1
      exact e1.1
    · have h := Where.where_any T hd p W (ht.below hb) sm
      rwa [e2, e3] at h)
  have YR : Hid (putS T exit = (SetM.list exit).foldl (putF T) ⟨PlanW.wG (where_ T (SetM.first exit)), -1, -1, false⟩) := Lib.hid (put_eq T exit)
  generalize putS T exit = res at YR ⊢
  have FI : Hid (∀ p, (SetM.list exit)[0]? = some p → SetM.first exit = p) := Lib.hid (fun p h => list_first h)
  have FN : Hid ((SetM.list exit).length = 0 → res = ⟨0, -1, -1, false⟩) := Lib.hid (fun h => by rw [YR.out, list_nil h, where_neg, List.length_eq_zero_iff.1 h]; rfl)
  have SN : Hid (∀ r l p, (l ++ [p]).foldl (putF T) r = putF T (l.foldl (putF T) r) p) := Lib.hid (fun r l p => putF_snoc T r l p)
  generalize putF T = PF at YR WH SN
  generalize hwg : (fun p => PlanW.wG (where_ T p)) = wg
  have WG : ∀ p, PlanW.wG (where_ T p) = wg p := fun p => by rw [← hwg]
  rw [WG] at YR
  simp only [WG] at WH
  generalize T.cells hd = tc at *
  clear ht hwg WG sm
  have hn0 := Blk.Bks.nil w
  have hn1 := hn0.alloc tc.toArray 32
  have hn2 := hn1.alloc #[I 0, I 0, I 0, .bool false] 36
  rw [show (w.alloc (.cells tc.toArray 32)).heap.size = w.heap.size + 1 by simp] at hn2
  clear hn0
  clear hn1
  go_enter Try.func9, Try.ntmps9
  go_upto_region 1 with fail
  generalize World.alloc (World.alloc w _) _ = v at hn2 ⊢
  generalize hg1 : w.heap.size + 1 = gz at hn2 ⊢
  generalize hg0 : w.heap.size = gt at hn2 ⊢
  clear hg0 hg1
  have H0 := Lib.hid hn2
  clear hn2
  clear hz
  go_upto_region 2 with (first | (refine wpList_build rfl 34 [(0, .const (I (-1))), (1, .const (I (-1)))] rfl #[I (-1), I (-1)] _ (by rfl) (builtA) ?_) | (refine wpList_build rfl 36 [(1, .tmp 13)] rfl (Rg.cells ⟨0, -1, -1, false⟩).toArray _ (by rfl) (builtP) ?_) | (refine Row.wpList_store_new rfl 36 _ _ rfl _ _ (Rg.cells ⟨0, -1, -1, false⟩).toArray rfl rfl rfl infoRg rfl (one_rg _) ?_))
  have hn := H0.out.alloc (Rg.cells ⟨0, -1, -1, false⟩).toArray 36
  generalize World.alloc v _ = v2 at hn ⊢
  generalize v.heap.size = g5 at hn ⊢
  have H2 := Lib.hid hn
  clear hn H0
  go_wp2_with fail
  refine (RefS.rlist_any exit _).mono ?_
  rintro e v3 ⟨v0, rfl, hown, hb⟩
  have H3 := Lib.hid (H2.out.step hb)
  obtain ⟨sa, sc, rfl, hrow⟩ := RefS.row_of hown
  have HR := Lib.hid hrow
  have HBK : Hid (∀ x, sa = some x → v2.heap.size ≤ x.block) := Lib.hid (fun x hx => RefS.row_blk hown.1 x.block (by rw [hx]; rfl))
  have LG5 := bks_lt H2.out 0 rfl
  have hl8 := SetM.list_len exit
  clear hown hrow hb H2
  generalize SetM.list exit = M at YR FI FN HR hl8 ⊢
  by_cases h0 : M.length = 0
  · have HE := Lib.hid (FN.out h0)
    have d0 : ((M.length : Int) == 0) = true := by rw [h0]; rfl
    go_upto_region 4 with fail
    go_wp2_with (first | (refine Row.wpList_load_g 36 _ rfl (by first | rfl | (go_simp; done) | fail) ⟨g5, 0, none⟩ rfl (⟨0, -1, -1, false⟩ : Rg).cells _ (seg H3.out 0 0 rfl _ rfl) Try.underlying36 rfl infoRg ?_) | (refine wpList_store_row rfl 36 _ _ rfl gz (⟨0, -1, -1, false⟩ : Rg).cells.toArray rfl rfl 36 _ (H3.out.at 1 rfl) infoRg rfl (one_rg _) ?_))
    have hput := H3.out.put 1 rfl (⟨0, -1, -1, false⟩ : Rg).cells.toArray
    simp only [List.set_cons_succ, List.set_cons_zero] at hput
    generalize World.setRow v3 gz _ = vz at hput ⊢
    have HG := Lib.hid hput
    clear hput
    go_wp2_with fail
    (try simp only [Exit.inBlock, Exit.then])
    refine bodyPost_ret (v := .agg (⟨0, -1, -1, false⟩ : Rg).cells.toArray) ?_ rfl ⟨by rw [HE.out], HG.out.bel⟩
    exact results_cell_row rfl _ _ gz 36 _ (0, 0) _ rfl (HG.out.at 1 rfl) Try.underlying36 rfl infoRg
  have d0 : ((M.length : Int) == 0) = false := beq_eq_false_iff_ne.2 (by omega)
  have hl0 : 0 < M.length := by omega
  have hv := List.getElem?_eq_getElem hl0
  generalize M[0] = p0 at hv
  have HP0 := Lib.hid (FI.out p0 hv)
  obtain ⟨x, hx, hc⟩ := HR.out.cells hl0
  obtain rfl : sa = some x := hx
  have NE : Hid (x.block ≠ g5) := Lib.hid (by have := HBK.out x rfl; omega)
  have XL : Hid (x.block < v3.heap.size) := Lib.hid (World.block_lt_of_cell? v3 _ (by have := hc 0 hl0; rwa [RefS.add_zero] at this))
  have hc0 : v3.cell? x = some (.int .i64 p0) := by have := hc 0 hl0; rw [RefS.add_zero, List.getD_eq_getElem?_getD, hv] at this; exact this
  go_upto_region 5 with fail
  clear d0 hc hv
  have HV := Lib.hid H3.out.bel
  have LT : Hid (∀ W, Below v3.heap.size v3 W → Lies W ⟨gt, 0, none⟩ tc) := Lib.hid (fun W hb => by have := (H3.out.step hb).lies 2 rfl; simpa using this)
  have CX : Hid (∀ W, Below v3.heap.size v3 W → W.cell? x = some (.int .i64 p0)) := Lib.hid (fun W hb => (hb.cell (World.block_lt_of_cell? v3 _ hc0)).trans hc0)
  clear hc0
  have WC : Hid (∀ W, Below w.heap.size w W → Calls Try.prog 34 #[.agg tc.toArray, .int .i64 p0] W fun e w' => ∃ k i pp ok, e = .returned (.tuple #[.agg #[I (wg p0), I k, I i, I pp], .bool ok]) ∧ Below W.heap.size W w') := Lib.hid (fun W hb => by
    obtain ⟨g, k, i, pp, ok, _, _, hg, hcall⟩ := WH.out p0 W hb
    rw [hg]
    exact hcall.mono fun e w' h => ⟨k, i, pp, ok, h⟩)
  rw [HP0.out] at YR
  generalize wg p0 = g0 at YR WC
  clear HP0 FI FN
  (try dsimp only [Act.put]); (try simp only [List.setIfInBounds_toArray, List.set_cons_zero, List.set_cons_succ])
  go_cut [7] from 9 to 66 (fun t7 wx => ∃ gs k0 i0 q0, t7 = .pointer (some ⟨gs, 0, none⟩) ∧ Below v3.heap.size v3 wx ∧ Blk.Bks w ((gs, #[I g0, I k0, I i0, I q0], 87) :: [(g5, (Rg.cells ⟨0, -1, -1, false⟩).toArray, 36), (gz, #[I 0, I 0, I 0, .bool false], 36), (gt, tc.toArray, 32)]) wx)
  case first =>
    refine wp_region_held (S := fun w' => Below v3.heap.size v3 w') (by kernel_rfl) ?_
    have hS : Below v3.heap.size v3 { v3 with drawn := v3.drawn + 1 } := (Below.refl _ _).drew
    have HA := Lib.hid (H3.out.step hS)
    generalize ({ v3 with drawn := v3.drawn + 1 } : World) = v at hS HA ⊢
    refine Held.take_load (i := 0) (some 22) rfl 32 (.tmp 2) ⟨gt, 0, none⟩ tc _ rfl rfl (by kernel_rfl) (by kernel_rfl) (by kernel_rfl) (fun _ _ _ h => h) (by rfl) hS rfl (fun w' hw' => LT.out w' hw') Try.underlying32 rfl IA ?_
    (try dsimp only [Act.put]); (try simp only [List.setIfInBounds_toArray, List.set_cons_zero, List.set_cons_succ])
    refine Held.take (i := 1) (some 23) rfl (v := ?_) rfl (by kernel_rfl) (by kernel_rfl) (by kernel_rfl) (fun _ _ _ h => h) (Or.inl ⟨by rfl, ?_⟩) hS ?_
    rotate_left
    · intro w' hw'
      go_simp
      try with_reducible rfl
    (try dsimp only [Act.put]); (try simp only [List.setIfInBounds_toArray, List.set_cons_zero, List.set_cons_succ])
    refine Held.take (i := 2) (some 24) rfl (v := ?_) rfl (by kernel_rfl) (by kernel_rfl) (by kernel_rfl) (fun _ _ _ h => h) (Or.inl ⟨by rfl, ?_⟩) hS ?_
    rotate_left
    · intro w' hw'
      go_simp
      try with_reducible rfl
    (try dsimp only [Act.put]); (try simp only [List.setIfInBounds_toArray, List.set_cons_zero, List.set_cons_succ])
    refine Held.take (i := 3) (some 25) rfl (v := ?_) rfl (by kernel_rfl) (by kernel_rfl) (by kernel_rfl) (fun _ _ _ h => h) (Or.inl ⟨by rfl, ?_⟩) hS ?_
    rotate_left
    · intro w' hw'
      have cf := CX.out w' hw'
      go_simp
      try with_reducible rfl
    (try dsimp only [Act.put]); (try simp only [List.setIfInBounds_toArray, List.set_cons_zero, List.set_cons_succ])
    refine wpAnyH_ready (rs := [4, 8]) (by kernel_rfl) (by simp) (AllReadyH.cons rfl (fun K hK => ?_) (AllReadyH.cons rfl (fun K hK => ?_) AllReadyH.nil))
    · go_simp
      refine (WC.out _ (HV.out.trans (hS.mono HV.out.size))).mono ?_
      rintro e vn ⟨k0, i0, q0, ok0, rfl, hb⟩
      have hq := hS.trans (hb.mono hS.size)
      have HA2 := Lib.hid (HA.out.step hb)
      clear hS hb HA
      have HA := HA2
      clear HA2
      go_simp
      refine hK.out _ _ hq (fun hS => ?_)
      clear hK K hq
      rename World => v
      (try dsimp only [Act.put]); (try simp only [List.setIfInBounds_toArray, List.set_cons_zero, List.set_cons_succ])
      refine Held.take (i := 5) (some 21) rfl (v := ?_) rfl (by kernel_rfl) (by kernel_rfl) (by kernel_rfl) (fun _ _ _ h => h) (Or.inl ⟨by rfl, ?_⟩) hS ?_
      rotate_left
      · intro w' hw'
        go_simp
        try with_reducible rfl
      (try dsimp only [Act.put]); (try simp only [List.setIfInBounds_toArray, List.set_cons_zero, List.set_cons_succ])
      refine Held.take (i := 6) (some 27) rfl (v := ?_) rfl (by kernel_rfl) (by kernel_rfl) (by kernel_rfl) (fun _ _ _ h => h) (Or.inl ⟨by rfl, ?_⟩) hS ?_
      rotate_left
      · intro w' hw'
        go_simp
        try with_reducible rfl
      (try dsimp only [Act.put]); (try simp only [List.setIfInBounds_toArray, List.set_cons_zero, List.set_cons_succ])
      refine Held.take (i := 7) (some 28) rfl (v := ?_) rfl (by kernel_rfl) (by kernel_rfl) (by kernel_rfl) (fun _ _ _ h => h) (Or.inl ⟨by rfl, ?_⟩) hS ?_
      rotate_left
      · intro w' hw'
        go_simp
        try with_reducible rfl
      (try dsimp only [Act.put]); (try simp only [List.setIfInBounds_toArray, List.set_cons_zero, List.set_cons_succ])
      refine wpAnyH_ready (rs := [8]) (by kernel_rfl) (by simp) (AllReadyH.cons rfl (fun K hK => ?_) AllReadyH.nil)
      go_simp
      have ha := HA.out.alloc #[I 0, I 0, I 0, I 0] 87
      have HGEgs := Lib.hid hS.size
      have hq := hS.alloc hS.size (.cells #[I 0, I 0, I 0, I 0] 87)
      clear hS HA
      generalize v.heap.size = gs at ha HGEgs ⊢
      generalize World.alloc v _ = va at ha hq ⊢
      have HA := Lib.hid ha
      clear ha
      refine hK.out _ _ hq (fun hS => ?_)
      clear hK K hq
      rename World => v
      (try dsimp only [Act.put]); (try simp only [List.setIfInBounds_toArray, List.set_cons_zero, List.set_cons_succ])
      refine wpAnyH_ready (rs := [9]) (by kernel_rfl) (by simp) (AllReadyH.cons rfl (fun K hK => ?_) AllReadyH.nil)
      rw [if_pos (by rfl)]
      refine wp_store_row 87 _ _ rfl gs #[I g0, I k0, I i0, I q0] rfl rfl 87 _ (HA.out.at 0 rfl) infoSp rfl (by simp [Value.oneCell']) ?_
      have hq := below_setRow hS (g := gs) HGEgs.out #[I g0, I k0, I i0, I q0]
      have hput := HA.out.put 0 rfl #[I g0, I k0, I i0, I q0]
      simp only [List.set_cons_succ, List.set_cons_zero] at hput
      clear hS HA
      generalize World.setRow _ gs _ = vs at hput hq ⊢
      have HA := Lib.hid hput
      clear hput
      refine hK.out _ _ hq (fun hS => ?_)
      clear hK K hq
      rename World => v
      (try simp only [List.getElem_toArray, List.getElem_cons_succ, List.getElem_cons_zero])
      (try dsimp only [Act.put]); (try simp only [List.setIfInBounds_toArray, List.set_cons_zero, List.set_cons_succ])
      refine Held.take (i := 10) (some 8) rfl (v := ?_) rfl (by kernel_rfl) (by kernel_rfl) (by kernel_rfl) (fun _ _ _ h => h) (Or.inl ⟨by rfl, ?_⟩) hS ?_
      rotate_left
      · intro w' hw'
        go_simp
        try with_reducible rfl
      (try dsimp only [Act.put]); (try simp only [List.setIfInBounds_toArray, List.set_cons_zero, List.set_cons_succ])
      refine wpAnyH_done (by kernel_rfl) ?_ _
      go_wp2_with fail
      go_meet
      case rel => exact ⟨gs, _, _, _, rfl, hS, HA.out⟩
    · go_simp
      have ha := HA.out.alloc #[I 0, I 0, I 0, I 0] 87
      have HGEgs := Lib.hid hS.size
      have hq := hS.alloc hS.size (.cells #[I 0, I 0, I 0, I 0] 87)
      clear hS HA
      generalize v.heap.size = gs at ha HGEgs ⊢
      generalize World.alloc v _ = va at ha hq ⊢
      have HA := Lib.hid ha
      clear ha
      refine hK.out _ _ hq (fun hS => ?_)
      clear hK K hq
      rename World => v
      (try dsimp only [Act.put]); (try simp only [List.setIfInBounds_toArray, List.set_cons_zero, List.set_cons_succ])
      refine wpAnyH_ready (rs := [4]) (by kernel_rfl) (by simp) (AllReadyH.cons rfl (fun K hK => ?_) AllReadyH.nil)
      go_simp
      refine (WC.out _ (HV.out.trans (hS.mono HV.out.size))).mono ?_
      rintro e vn ⟨k0, i0, q0, ok0, rfl, hb⟩
      have hq := hS.trans (hb.mono hS.size)
      have HA2 := Lib.hid (HA.out.step hb)
      clear hS hb HA
      have HA := HA2
      clear HA2
      go_simp
      refine hK.out _ _ hq (fun hS => ?_)
      clear hK K hq
      rename World => v
      (try dsimp only [Act.put]); (try simp only [List.setIfInBounds_toArray, List.set_cons_zero, List.set_cons_succ])
      refine Held.take (i := 5) (some 21) rfl (v := ?_) rfl (by kernel_rfl) (by kernel_rfl) (by kernel_rfl) (fun _ _ _ h => h) (Or.inl ⟨by rfl, ?_⟩) hS ?_
      rotate_left
      · intro w' hw'
        go_simp
        try with_reducible rfl
      (try dsimp only [Act.put]); (try simp only [List.setIfInBounds_toArray, List.set_cons_zero, List.set_cons_succ])
      refine Held.take (i := 6) (some 27) rfl (v := ?_) rfl (by kernel_rfl) (by kernel_rfl) (by kernel_rfl) (fun _ _ _ h => h) (Or.inl ⟨by rfl, ?_⟩) hS ?_
      rotate_left
      · intro w' hw'
        go_simp
        try with_reducible rfl
      (try dsimp only [Act.put]); (try simp only [List.setIfInBounds_toArray, List.set_cons_zero, List.set_cons_succ])
      refine Held.take (i := 7) (some 28) rfl (v := ?_) rfl (by kernel_rfl) (by kernel_rfl) (by kernel_rfl) (fun _ _ _ h => h) (Or.inl ⟨by rfl, ?_⟩) hS ?_
      rotate_left
      · intro w' hw'
        go_simp
        try with_reducible rfl
      (try dsimp only [Act.put]); (try simp only [List.setIfInBounds_toArray, List.set_cons_zero, List.set_cons_succ])
      refine wpAnyH_ready (rs := [9]) (by kernel_rfl) (by simp) (AllReadyH.cons rfl (fun K hK => ?_) AllReadyH.nil)
      rw [if_pos (by rfl)]
      refine wp_store_row 87 _ _ rfl gs #[I g0, I k0, I i0, I q0] rfl rfl 87 _ (HA.out.at 0 rfl) infoSp rfl (by simp [Value.oneCell']) ?_
      have hq := below_setRow hS (g := gs) HGEgs.out #[I g0, I k0, I i0, I q0]
      have hput := HA.out.put 0 rfl #[I g0, I k0, I i0, I q0]
      simp only [List.set_cons_succ, List.set_cons_zero] at hput
      clear hS HA
      generalize World.setRow _ gs _ = vs at hput hq ⊢
      have HA := Lib.hid hput
      clear hput
      refine hK.out _ _ hq (fun hS => ?_)
      clear hK K hq
      rename World => v
      (try simp only [List.getElem_toArray, List.getElem_cons_succ, List.getElem_cons_zero])
      (try dsimp only [Act.put]); (try simp only [List.setIfInBounds_toArray, List.set_cons_zero, List.set_cons_succ])
      refine Held.take (i := 10) (some 8) rfl (v := ?_) rfl (by kernel_rfl) (by kernel_rfl) (by kernel_rfl) (fun _ _ _ h => h) (Or.inl ⟨by rfl, ?_⟩) hS ?_
      rotate_left
      · intro w' hw'
        go_simp
        try with_reducible rfl
      (try dsimp only [Act.put]); (try simp only [List.setIfInBounds_toArray, List.set_cons_zero, List.set_cons_succ])
      refine wpAnyH_done (by kernel_rfl) ?_ _
      go_wp2_with fail
      go_meet
      case rel => exact ⟨gs, _, _, _, rfl, hS, HA.out⟩
  case rest =>
  obtain ⟨gs, k0, i0, q0, rfl, hbx, hcut⟩ := hcut
  have H4 := Lib.hid hcut
  have BX := Lib.hid hbx
  clear hcut hbx H3 HV LT CX WC
  rename World => wx
  have s0 : wx.cell? ⟨gs, 0, none⟩ = some (I g0) := H4.out.cell 0 0 rfl rfl
  have o0 : wx.cell? ⟨g5, 0, none⟩ = some (I 0) := H4.out.cell 1 0 rfl rfl
  have f0 : wx.frozen? ⟨g5, 0, none⟩ = false := H4.out.frozen 1 0 rfl
  go_upto_region 7 with fail
  have hput := H4.out.set 1 0 rfl (I g0)
  rw [show (Rg.cells ⟨0, -1, -1, false⟩).toArray.setIfInBounds 0 (I g0) = (Rg.cells ⟨g0, -1, -1, false⟩).toArray from rfl] at hput
  simp only [List.set_cons_succ, List.set_cons_zero] at hput
  generalize hwy : World.setCell wx _ _ = wy at hput ⊢
  have H5 := Lib.hid hput
  have KX : Hid (wy.heap[x.block]? = v3.heap[x.block]?) := Lib.hid (by
    rw [← hwy]
    exact (Below.heap_setCell _ _ _ _ (show x.block ≠ g5 from NE.out)).trans (BX.out.block _ XL.out))
  clear hput s0 o0 f0 H4 BX hwy
  go_wp2_with fail
  go_loopw [34] (fun i wr => ∃ q : Nat, q ≤ M.length ∧ i = .int .i64 q ∧ wr.heap[x.block]? = v3.heap[x.block]? ∧ Blk.Bks w [(gs, #[I g0, I k0, I i0, I q0], 87), (g5, (Rg.cells ((M.take q).foldl PF ⟨g0, -1, -1, false⟩)).toArray, 36), (gz, #[I 0, I 0, I 0, .bool false], 36), (gt, tc.toArray, 32)] wr) (fun i _ => M.length - (intOf i).toNat)
  case atStart => exact ⟨0, by omega, rfl, KX.out, H5.out⟩
  case round =>
    obtain ⟨q, hq, rfl, hkx, hB⟩ := hrel
    have HB := Lib.hid hB
    have HK := Lib.hid hkx
    clear hB hkx H5 KX
    by_cases hlt : q < M.length
    · have hz : wr.cell? (x.add q) = some (.int .i64 (M.getD q 0)) := by
        obtain ⟨y, hy, hc⟩ := HR.out.cells hl0
        obtain rfl := Option.some.inj hy
        exact (cell_heap HK.out).trans (hc q hlt)
      have HT : Hid ((M.take (q + 1)).foldl PF ⟨g0, -1, -1, false⟩ = PF ((M.take q).foldl PF ⟨g0, -1, -1, false⟩) (M.getD q 0)) := Lib.hid (by rw [RefS.take_succ M q hlt, SN.out])
      generalize M.getD q 0 = p at hz HT
      obtain ⟨g, k, i, pp, ok, hpf, hk, _, hcall⟩ := WH.out p wr HB.out.bel
      obtain ⟨rr, hrr⟩ : ∃ rr, (M.take q).foldl PF ⟨g0, -1, -1, false⟩ = rr := ⟨_, rfl⟩
      rw [hrr] at HB HT
      have HE := Lib.hid (HT.out.trans (hpf rr))
      clear HT hpf hrr
      go_wp2_with (refine Row.wpList_load_g 32 _ rfl (by first | rfl | (go_simp; done) | fail) ⟨gt, 0, none⟩ rfl tc _ (by have := HB.out.lies 3 rfl; simpa using this) Try.underlying32 rfl IA ?_)
      refine hcall.mono ?_
      rintro e w6 ⟨rfl, b6⟩
      have H6 := Lib.hid (HB.out.step b6)
      have HK6 : Hid (w6.heap[x.block]? = v3.heap[x.block]?) := Lib.hid ((b6.block _ (by rw [Array.getElem?_eq_getElem XL.out] at HK; exact (Array.getElem?_eq_some_iff.1 HK.out).1)).trans HK.out)
      clear b6 HB HK hz hcall
      go_upto_region 11 with (refine Row.wpList_store_new rfl 87 _ _ rfl _ _ #[I g, I k, I i, I pp] rfl rfl rfl infoSp rfl (by simp [Value.oneCell']) ?_)
      have hn := H6.out.alloc #[I g, I k, I i, I pp] 87
      have hk7 : (w6.alloc (.cells #[I g, I k, I i, I pp] 87)).heap[x.block]? = v3.heap[x.block]? := (Below.heap_alloc _ _ _ (by have h := HK6.out; rw [Array.getElem?_eq_getElem XL.out] at h; exact (Array.getElem?_eq_some_iff.1 h).1)).trans HK6.out
      generalize World.alloc w6 _ = w7 at hn hk7 ⊢
      generalize w6.heap.size = g11 at hn ⊢
      have H7 := Lib.hid hn
      have HK7 := Lib.hid hk7
      clear hn hk7 H6 HK6
      have c0 : w7.cell? ⟨g5, 0, none⟩ = some (I rr.g) := H7.out.cell 2 0 rfl rfl
      have c1 : w7.cell? ⟨g5, 1, none⟩ = some (I rr.a0) := H7.out.cell 2 1 rfl rfl
      have c2 : w7.cell? ⟨g5, 2, none⟩ = some (I rr.a1) := H7.out.cell 2 2 rfl rfl
      have f1 : w7.frozen? ⟨g5, 1, none⟩ = false := H7.out.frozen 2 1 rfl
      have f2 : w7.frozen? ⟨g5, 2, none⟩ = false := H7.out.frozen 2 2 rfl
      have d0 : w7.cell? ⟨g11, 0, none⟩ = some (I g) := H7.out.cell 0 0 rfl rfl
      have d1 : w7.cell? ⟨g11, 1, none⟩ = some (I k) := H7.out.cell 0 1 rfl rfl
      have d2 : w7.cell? ⟨g11, 2, none⟩ = some (I i) := H7.out.cell 0 2 rfl rfl
      obtain ⟨rg, a0, a1, cr⟩ := rr
      dsimp only at c0 c1 c2 HE
      cases ok
      · replace HE := Lib.hid (HE.out.trans (if_neg (fun h => by cases h.1)))
        go_wp2
        go_roundw
        case rel => exact ⟨q + 1, by omega, by go_num, HK7.out, by rw [HE.out]; exact H7.out.drop⟩
        case measure => simp [intOf]; omega
      by_cases hgg : g = rg
      rotate_left
      · replace HE := Lib.hid (HE.out.trans (if_neg (fun h => hgg h.2.1)))
        go_wp2
        go_roundw
        case rel => exact ⟨q + 1, by omega, by go_num, HK7.out, by rw [HE.out]; exact H7.out.drop⟩
        case measure => simp [intOf]; omega
      subst hgg
      rcases hk with rfl | rfl
      · by_cases ha : a0 < 0
        · replace HE := Lib.hid (HE.out.trans ((if_pos ⟨rfl, rfl, by rw [if_pos rfl]; exact ha⟩).trans (if_pos rfl)))
          go_upto_region 13 with fail
          have hput := H7.out.set 2 1 rfl (I i)
          rw [show (Rg.cells ⟨g, a0, a1, cr⟩).toArray.setIfInBounds 1 (I i) = (Rg.cells ⟨g, i, a1, cr⟩).toArray from rfl] at hput
          simp only [List.set_cons_succ, List.set_cons_zero] at hput
          have hk8 : (w7.setCell ⟨g5, 1, none⟩ (I i)).heap[x.block]? = v3.heap[x.block]? := (Below.heap_setCell _ _ _ _ (show x.block ≠ g5 from NE.out)).trans HK7.out
          generalize World.setCell w7 _ _ = w8 at hput hk8 ⊢
          have H8 := Lib.hid hput
          have HK8 := Lib.hid hk8
          clear hput hk8 c0 c1 c2 d0 d1 d2 f1 f2 H7 HK7
          go_wp2
          go_roundw
          case rel => exact ⟨q + 1, by omega, by go_num, HK8.out, by rw [HE.out]; exact H8.out.drop⟩
          case measure => simp [intOf]; omega
        · have da : decide (a0 < 0) = false := decide_eq_false ha
          replace HE := Lib.hid (HE.out.trans (if_neg (fun h => ha (by have := h.2.2; rwa [if_pos rfl] at this))))
          go_wp2
          go_roundw
          case rel => exact ⟨q + 1, by omega, by go_num, HK7.out, by rw [HE.out]; exact H7.out.drop⟩
          case measure => simp [intOf]; omega
      · by_cases ha : a1 < 0
        · replace HE := Lib.hid (HE.out.trans ((if_pos ⟨rfl, rfl, by rw [if_neg (by decide)]; exact ha⟩).trans (if_neg (by decide))))
          go_upto_region 13 with fail
          have hput := H7.out.set 2 2 rfl (I i)
          rw [show (Rg.cells ⟨g, a0, a1, cr⟩).toArray.setIfInBounds 2 (I i) = (Rg.cells ⟨g, a0, i, cr⟩).toArray from rfl] at hput
          simp only [List.set_cons_succ, List.set_cons_zero] at hput
          have hk8 : (w7.setCell ⟨g5, 2, none⟩ (I i)).heap[x.block]? = v3.heap[x.block]? := (Below.heap_setCell _ _ _ _ (show x.block ≠ g5 from NE.out)).trans HK7.out
          generalize World.setCell w7 _ _ = w8 at hput hk8 ⊢
          have H8 := Lib.hid hput
          have HK8 := Lib.hid hk8
          clear hput hk8 c0 c1 c2 d0 d1 d2 f1 f2 H7 HK7
          go_wp2
          go_roundw
          case rel => exact ⟨q + 1, by omega, by go_num, HK8.out, by rw [HE.out]; exact H8.out.drop⟩
          case measure => simp [intOf]; omega
        · have da : decide (a1 < 0) = false := decide_eq_false ha
          replace HE := Lib.hid (HE.out.trans (if_neg (fun h => ha (by have := h.2.2; rwa [if_neg (by decide)] at this))))
          go_wp2
          go_roundw
          case rel => exact ⟨q + 1, by omega, by go_num, HK7.out, by rw [HE.out]; exact H7.out.drop⟩
          case measure => simp [intOf]; omega
    · obtain rfl : q = M.length := by omega
      rw [List.take_length] at HB
      have HS : Hid (res = M.foldl PF ⟨g0, -1, -1, false⟩) := Lib.hid YR.out
      generalize M.foldl PF ⟨g0, -1, -1, false⟩ = rr at HB HS
      go_wp2_with (first | (refine Row.wpList_load_g 36 _ rfl (by first | rfl | (go_simp; done) | fail) ⟨g5, 0, none⟩ rfl rr.cells _ (seg HB.out 1 0 rfl _ rfl) Try.underlying36 rfl infoRg ?_) | (refine wpList_store_row rfl 36 _ _ rfl gz rr.cells.toArray rfl rfl 36 _ (HB.out.at 2 rfl) infoRg rfl (one_rg _) ?_))
      have hput := HB.out.put 2 rfl rr.cells.toArray
      simp only [List.set_cons_succ, List.set_cons_zero] at hput
      generalize World.setRow wr gz _ = vz at hput ⊢
      have HG := Lib.hid hput
      clear hput
      go_wp2_with fail
      (try simp only [Exit.inBlock, Exit.then])
      refine bodyPost_ret (v := .agg rr.cells.toArray) ?_ rfl ⟨by rw [HS.out], HG.out.bel⟩
      exact results_cell_row rfl _ _ gz 36 _ (0, 0) _ rfl (HG.out.at 2 rfl) Try.underlying36 rfl infoRg
end Rg
namespace Rg
open Go Go.ChangeShapes Go.WideShapes Go.ChangeAt Go.RowKit
open Tab Flat TabArg QL Ru PlanM
open ChkM (cfAt)
open Clear (phAt)
open PlaceM (where_ spots Spt)
open May (infoP)
theorem flRg5 : flat Try.prog 5 36 = some [3, 3, 3, 4] := by kernel_rfl
theorem rg_eqs (r q : Rg) : Same.Eqs 36 r.cells q.cells (decide (r = q)) := by
  obtain ⟨a0, a1, a2, a3⟩ := r
  obtain ⟨b0, b1, b2, b3⟩ := q
  refine Same.eqs_of flRg5 (by decide) (by kernel_rfl) [(I a0, I b0), (I a1, I b1), (I a2, I b2), (.bool a3, .bool b3)]
    ⟨Same.lint _ _, Same.lint _ _, Same.lint _ _, Same.lbool _ _, trivial⟩ rfl rfl ?_
  simp [Rg.cells]
theorem rg_same (r : Rg) : Same.Eqs 36 r.cells r.cells true := by simpa using rg_eqs r r
theorem guardRg : Try.prog.eqGuardType Try.prog.depth 36 = false := by kernel_rfl
section
variable {H : Type} {enc : TypeId × Value → H} {P : Program} {w : World} {base : Nat} {spare : Nat → Bool} {held : Bool}
end
end Rg
end Go.Proofs.Ytjgpljnbeolapaa
