/- 6 texts in one file, in build order. -/
import Derived.Test.YtjolhoilcibdfaaGreatRows
import Derived.Test.YtjolhoilcibdfaaGreatPart07
set_option linter.unusedVariables false
set_option linter.unusedSimpArgs false
set_option linter.unusedSectionVars false
/- The contract of package check's badConflict. -/
namespace Go.Proofs.YtjolhoilcibdfaaGreat.ChkJ
open Go.RowKit Go.Shelf
open Tab PlaceM PlanM OnS ChkM Each Search ChkI
open May (infoT)
set_option linter.unusedVariables false
set_option linter.unusedSimpArgs false
attribute [local go_sem] Oper.semAt_some
/-- Three blocks laid one behind the other. -/
theorem laid3 (w : World) (o0 o1 o2 : Obj) : ∃ W, (((w.alloc o0).alloc o1).alloc o2) = W ∧ W.heap.size = w.heap.size + 3 ∧ Below w.heap.size w W ∧ Below (w.heap.size + 1) (w.alloc o0) W ∧ W.heap[w.heap.size + 1]? = some o1 ∧ W.heap[w.heap.size + 2]? = some o2 := by
  refine ⟨_, rfl, by simp, ((((Below.refl _ w).alloc (Nat.le_refl _) _).alloc (by simp) _).alloc (by simp; omega) _), ?_, ?_, ?_⟩
  · have := (((Below.refl (w.alloc o0).heap.size (w.alloc o0)).alloc (Nat.le_refl _) o1).alloc (by simp) o2)
    simpa using this
  · have h1 := heap_alloc_new (w.alloc o0) o1
    have h2 := Below.heap_alloc ((w.alloc o0).alloc o1) o2 (w.heap.size + 1) (by simp)
    rw [World.size_alloc] at h1
    exact h2.trans h1
  · have h1 := heap_alloc_new ((w.alloc o0).alloc o1) o2
    simp only [World.size_alloc] at h1
    exact h1
/-- What is bad of a phase q that is On, beside p. -/
def cbad (T : Tab) (p q : Int) : Bool := (SetM.has (cfAt T p) q != SetM.has (cfAt T q) p) || (SetM.has (cfAt T p) q && beside T p q)
theorem conf_self {T : Tab} {p : Int} (h : SetM.has (cfAt T p) p = true) : confBad T p = true := by unfold confBad; rw [h]; rfl
theorem conf_any {T : Tab} {p : Int} (h : SetM.has (cfAt T p) p = false) : confBad T p = (ons T).any (cbad T p) := by unfold confBad; rw [h]; rfl
set_option maxRecDepth 100000 in
set_option maxHeartbeats 4000000 in
theorem badConflict_any (T : Tab) (h : Hd) (k : Nat) (hk : k < 8) (w : World) (ht : IsTab w h T) :
    Calls Tryz.prog 77 #[.agg (T.cells h).toArray, .int .i64 k] w fun e w' => e = .returned (.bool (confBad T k)) ∧ Below w.heap.size w w' := by
  have hsz := (cells_ok ht).size
  have IA : Hid ((Tryz.prog.info? 32).map (·.size) = some (T.cells h).length) := Lib.hid (by rw [List.size_toArray] at hsz; rw [hsz]; exact infoT)
  have ON : Hid (∀ W, Below w.heap.size w W → Calls Tryz.prog 96 #[.agg (T.cells h).toArray] W fun e w' => e = .returned (.int .i64 (onS T : Nat)) ∧ Below W.heap.size W w') := Lib.hid (fun W hb => PlanO.pon_any T h W (ht.below hb))
  have BS : Hid (∀ (p q : Int) W, Below w.heap.size w W → Calls Tryz.prog 112 #[.agg (T.cells h).toArray, .int .i64 p, .int .i64 q] W fun e w' => e = .returned (.bool (beside T p q)) ∧ Below W.heap.size W w') := Lib.hid (fun p q W hb => PlanW.pbeside_any T h p q W (ht.below hb))
  have BX0 := Lib.hid (bxd_new ht)
  have LT0 := Lib.hid (Row.lies_new w (T.cells h).toArray 32)
  have hs1 : (w.alloc (.cells (T.cells h).toArray 32)).heap.size = w.heap.size + 1 := by simp
  clear ht
  generalize T.cells h = c at *
  refine (callsIn_wide (n := 3)).1 ?_
  refine callsIn_of_wp_marks Tryz.func77 rfl trivial ?_ rfl
  simp only [Tryz.ntmps77, List.size_toArray, List.length_cons, List.length_nil, Nat.reduceAdd, Nat.reduceSub, Array.replicate_succ, Array.replicate_zero, List.push_toArray, List.append_toArray, List.nil_append, List.cons_append]
  refine wpIn_wide.2 ?_
  go_upto_region 1 with fail
  obtain ⟨W1, hW1, E1, E0, EB, bS, bR⟩ := laid3 w (.cells c.toArray 32) (.cells #[.int .i64 k] 3) (.cells #[.bool false] 4)
  rw [hW1]
  have BX1 := Lib.hid (BX0.out.below (by rw [hs1]; exact EB))
  have LT1 := Lib.hid (LT0.out.below (by rw [hs1]; exact EB))
  have A0 := Lib.hid E0
  clear hW1 EB hs1 hsz BX0 LT0 E0
  have bS : Boxed W1 (w.heap.size + 1) 3 (.int .i64 k) := bS
  have bR : Boxed W1 (w.heap.size + 1 + 1) 4 (.bool false) := bR
  have cS := bS.cell
  have cc := BX1.out.cf k (by omega) (by omega)
  rw [Int.toNat_natCast] at cc
  have hne : Nonempty (Ph.S (Row.Old W1)) := ⟨⟨0, W1, Below.refl _ _⟩⟩
  have CC : ∀ p : Ph.S (Row.Old W1), p.world.cell? ⟨w.heap.size, 105 + k, none⟩ = some (I (cfAt T k)) := fun p => (p.is.cell (World.block_lt_of_cell? W1 _ cc)).trans cc
  have CS : ∀ p : Ph.S (Row.Old W1), p.world.cell? ⟨w.heap.size + 1, 0, none⟩ = some (.int .i64 k) := fun p => (p.is.cell (World.block_lt_of_cell? W1 _ cS)).trans cS
  refine Pw.region (Row.Old W1) [] hmx (by kernel_rfl) (Row.Old.drew _) ?_
  have hki : ((k : Nat) : Int) < 8 := by omega
  iterate 5
    (refine Pw.calm rfl (fun K hK => ?_)
     go_simp
     refine hK _ ?_
     clear hK K)
  (refine Pw.calm rfl (fun K hK => ?_)
   go_simp
   refine ⟨_, fun p => Row.Old.pure (SetP.has_any _ _ _), hK _ ?_⟩
   clear hK K)
  refine Pw.nil ?_
  intro W2 hb
  have B0 : Hid (Below w.heap.size w W2) := Lib.hid (A0.out.trans (hb.mono (by omega)))
  have bS2 : Boxed W2 (w.heap.size + 1) 3 (.int .i64 k) := (hb.block _ (by omega)).trans bS
  have bR2 : Boxed W2 (w.heap.size + 1 + 1) 4 (.bool false) := (hb.block _ (by omega)).trans bR
  have BX := Lib.hid (BX1.out.below hb)
  have LT := Lib.hid (LT1.out.below hb)
  have E2 : w.heap.size + 3 ≤ W2.heap.size := by have := hb.size; omega
  clear CC CS cc cS hne hb bS bR BX1 LT1 A0 E1
  cases hself : SetM.has (cfAt T k) k with
  | true =>
    have HR := Lib.hid (conf_self hself)
    clear hself
    have hc := bR2.cell
    have hf := bR2.frozen
    go_wp2
    have hv2 := bR2.set (.bool true)
    have hc5 := hv2.cell
    refine ⟨.bool true, ?_, by rw [HR.out], B0.out.setCell (p := ⟨w.heap.size + 1 + 1, 0, none⟩) (by simp; omega) _⟩
    simp [results, Tryz.f77, go_sem, hc5]
  | false =>
    have HR := Lib.hid (conf_any hself)
    clear hself
    go_wp2_with (refine Row.wpList_load_g 32 _ rfl (by first | rfl | go_simp) ⟨w.heap.size, 0, none⟩ rfl c _ LT.out Tryz.underlying32 rfl IA.out ?_)
    refine (ON.out _ B0.out).mono ?_
    rintro e W3 ⟨rfl, hb⟩
    go_wp2_with fail
    refine (callsIn_wide.1 (Each.each_in 3 _ _)).mono ?_
    rintro e w' ⟨rfl, rfl⟩
    go_wp2_with fail
    have hb4 : Below W2.heap.size W2 (W3.alloc (.cells #[.int .i64 (onS T : Nat)] 3)) := hb.alloc hb.size _
    have bE : Boxed (W3.alloc (.cells #[.int .i64 (onS T : Nat)] 3)) W3.heap.size 3 (.int .i64 (onS T : Nat)) := Boxed.new _ _ _
    have hsz3 : (W3.alloc (.cells #[.int .i64 (onS T : Nat)] 3)).heap.size = W3.heap.size + 1 := by simp
    have hs3 := hb.size
    generalize W3.alloc (.cells #[.int .i64 (onS T : Nat)] 3) = W4 at hb4 bE hsz3 ⊢
    have bS4 : Boxed W4 (w.heap.size + 1) 3 (.int .i64 k) := (hb4.block _ (by omega)).trans bS2
    have bR4 : Boxed W4 (w.heap.size + 1 + 1) 4 (.bool false) := (hb4.block _ (by omega)).trans bR2
    have BX4 := Lib.hid (BX.out.below hb4)
    have LT4 := Lib.hid (LT.out.below hb4)
    have C0 : Hid (Below w.heap.size w W4) := Lib.hid (B0.out.trans (hb4.mono B0.out.size))
    have E4 : w.heap.size + 3 < W4.heap.size := by omega
    clear hb hb4 bS2 bR2 BX LT B0 E2 hs3
    generalize W3.heap.size = be at *
    refine (wpIn_wide (n := 3)).1 ?_
    refine search (cbad T k) (fun _ => .cells #[.bool true] 4 (0, 0)) be (w.heap.size + 1 + 1) (onS T : Nat) (by omega) rfl rfl (by omega) (by omega) bE.cell
      (fun x => { tmps := #[.agg c.toArray, .int .i64 k, .pointer (some ⟨w.heap.size, 0, none⟩), .pointer (some ⟨w.heap.size + 1, 0, none⟩), .pointer (some ⟨w.heap.size + 1 + 1, 0, none⟩), .int .i64 x, undef, .int .i64 k, .pointer (some ⟨w.heap.size, 105, none⟩), .pointer (some ⟨w.heap.size, 105 + k, none⟩), I (cfAt T k), .int .i64 k, .bool false, .agg c.toArray, .int .i64 (onS T : Nat), .func (.func 127) #[] #[.pointer (some ⟨be, 0, none⟩)], .int .i64 x, undef, undef, undef, undef, undef, undef, undef, undef, undef, undef, undef, undef, undef, undef, undef, undef, undef, undef, undef, undef, undef, undef, undef], defers := [] }) ?assign ?body ?done ?stop
    case assign =>
      intro l x W K hK
      gi_wp2
      exact hK
    case body =>
      intro l x W hx hB
      have hx8 := SetM.list_bd _ x hx
      have BXW := BX4.out.below hB
      have cc := BXW.cf x hx8.1 hx8.2
      have ck := BXW.cf k (by omega) (by omega)
      rw [Int.toNat_natCast] at ck
      have cS := (Boxed.cell (show Boxed W (w.heap.size + 1) 3 (.int .i64 k) from (hB.block _ (by omega)).trans bS4))
      have LTW := Lib.hid (LT4.out.below hB)
      have BW : Hid (Below w.heap.size w W) := Lib.hid (C0.out.trans (hB.mono C0.out.size))
      have hvR : Boxed W (w.heap.size + 1 + 1) 4 (.bool false) := (hB.block _ (by omega)).trans bR4
      have HV := Lib.hid hvR
      obtain ⟨j, rfl⟩ := Int.eq_ofNat_of_zero_le hx8.1
      rw [Int.toNat_natCast] at cc
      have hj8 : ((j : Nat) : Int) < 8 := hx8.2
      have hjn : j < 8 := by omega
      have CB : Hid (cbad T k j = _) := Lib.hid (by unfold cbad; rfl)
      have CC : ∀ p : Ph.S (Row.Old W), p.world.cell? ⟨w.heap.size, 105 + j, none⟩ = some (I (cfAt T j)) := fun p => (p.is.cell (World.block_lt_of_cell? W _ cc)).trans cc
      have CS : ∀ p : Ph.S (Row.Old W), p.world.cell? ⟨w.heap.size + 1, 0, none⟩ = some (.int .i64 k) := fun p => (p.is.cell (World.block_lt_of_cell? W _ cS)).trans cS
      have CH := Lib.hid CC
      have CSH := Lib.hid CS
      have BSW : Hid (∀ p : Ph.S (Row.Old W), Calls Tryz.prog 112 #[.agg c.toArray, .int .i64 k, .int .i64 j] p.world fun e w' => e = .returned (.bool (beside T k j)) ∧ Below p.world.heap.size p.world w') := Lib.hid (fun p => BS.out k j _ (BW.out.trans (p.is.mono BW.out.size)))
      clear cc CC CS hB BXW bE bS4 bR4 hvR
      obtain ⟨a, ha⟩ : ∃ a, SetM.has (cfAt T k) j = a := ⟨_, rfl⟩
      obtain ⟨b, hb'⟩ : ∃ b, SetM.has (cfAt T j) k = b := ⟨_, rfl⟩
      gi_wp2_with (refine ⟨trivial, ?_⟩; gi_at_call 95; refine (CallsIn.inRound l (callsIn_wide.2 (SetP.has_any _ _ _))).mono ?_; rintro e w' ⟨rfl, rfl⟩; rw [ha])
      have hne : Nonempty (Ph.S (Row.Old W)) := ⟨⟨0, W, Below.refl _ _⟩⟩
      have CC := CH.out
      have CS := CSH.out
      refine Up.region_ph (Row.Old W) [] (fun ⟨_, _, h⟩ => h) (by kernel_rfl) hmx (by kernel_rfl) (Row.Old.drew _) ?_
      iterate 6
        (refine Pw.calm rfl (fun K hK => ?_)
         go_simp
         refine hK _ ?_
         clear hK K)
      (refine Pw.calm rfl (fun K hK => ?_)
       go_simp
       refine ⟨_, fun p => Row.Old.pure (SetP.has_any _ _ _), hK _ ?_⟩
       clear hK K)
      rw [hb']
      cases a with
      | false =>
        cases b with
        | false =>
          have HCB : Hid (cbad T k j = false) := Lib.hid (by rw [CB.out, ha, hb']; rfl)
          clear ha hb' CB
          iterate 4
            (refine Pw.calm rfl (fun K hK => ?_)
             go_simp
             refine hK _ ?_
             clear hK K)
          refine Pw.skips 4 (by kernel_rfl) ?_
          (try simp only [List.take_succ_cons, List.take_zero, List.drop_succ_cons, List.drop_zero, Pw.undefs])
          (try dsimp only [Act.put])
          (try simp only [List.setIfInBounds_toArray, List.set_cons_zero, List.set_cons_succ])
          iterate 2
            (refine Pw.calm rfl (fun K hK => ?_)
             go_simp
             refine hK _ ?_
             clear hK K)
          refine Pw.nil ?_
          intro Wz hbz
          have hv : Boxed Wz (w.heap.size + 1 + 1) 4 (.bool false) := (hbz.block _ HV.out.lt).trans HV.out
          have hc := hv.cell
          have hf := hv.frozen
          clear CC CS hne
          gi_wp2
          exact ⟨HCB.out, hbz⟩
        | true =>
          have HCB : Hid (cbad T k j = true) := Lib.hid (by rw [CB.out, ha, hb']; rfl)
          clear ha hb' CB
          iterate 2
            (refine Pw.calm rfl (fun K hK => ?_)
             go_simp
             refine hK _ ?_
             clear hK K)
          refine Pw.skips 7 (by kernel_rfl) ?_
          (try simp only [List.take_succ_cons, List.take_zero, List.drop_succ_cons, List.drop_zero, Pw.undefs])
          (try dsimp only [Act.put])
          (try simp only [List.setIfInBounds_toArray, List.set_cons_zero, List.set_cons_succ])
          iterate 1
            (refine Pw.calm rfl (fun K hK => ?_)
             go_simp
             refine hK _ ?_
             clear hK K)
          refine Pw.nil ?_
          intro Wz hbz
          have hv : Boxed Wz (w.heap.size + 1 + 1) 4 (.bool false) := (hbz.block _ HV.out.lt).trans HV.out
          have hc := hv.cell
          have hf := hv.frozen
          clear CC CS hne
          gi_wp2
          exact ⟨HCB.out, grown_trans (grown_of_below hbz) (grownBy_setCell' _ _ _), hv.set (.bool true)⟩
      | true =>
        cases b with
        | false =>
          have HCB : Hid (cbad T k j = true) := Lib.hid (by rw [CB.out, ha, hb']; rfl)
          clear ha hb' CB
          iterate 2
            (refine Pw.calm rfl (fun K hK => ?_)
             go_simp
             refine hK _ ?_
             clear hK K)
          refine Pw.skips 7 (by kernel_rfl) ?_
          (try simp only [List.take_succ_cons, List.take_zero, List.drop_succ_cons, List.drop_zero, Pw.undefs])
          (try dsimp only [Act.put])
          (try simp only [List.setIfInBounds_toArray, List.set_cons_zero, List.set_cons_succ])
          iterate 1
            (refine Pw.calm rfl (fun K hK => ?_)
             go_simp
             refine hK _ ?_
             clear hK K)
          refine Pw.nil ?_
          intro Wz hbz
          have hv : Boxed Wz (w.heap.size + 1 + 1) 4 (.bool false) := (hbz.block _ HV.out.lt).trans HV.out
          have hc := hv.cell
          have hf := hv.frozen
          clear CC CS hne
          gi_wp2
          exact ⟨HCB.out, grown_trans (grown_of_below hbz) (grownBy_setCell' _ _ _), hv.set (.bool true)⟩
        | true =>
          have HCB0 : Hid (cbad T k j = beside T k j) := Lib.hid (by rw [CB.out, ha, hb']; simp)
          clear ha hb' CB
          obtain ⟨bs, hbs⟩ : ∃ x, beside T k j = x := ⟨_, rfl⟩
          iterate 4
            (refine Pw.calm rfl (fun K hK => ?_)
             go_simp
             refine hK _ ?_
             clear hK K)
          refine Pw.load rfl (by rfl) 32 _ rfl ⟨w.heap.size, 0, none⟩ rfl c _ (fun p => LTW.out.below p.is) Tryz.underlying32 rfl IA.out ?_
          (try dsimp only [Act.put]); (try simp only [List.setIfInBounds_toArray, List.set_cons_zero, List.set_cons_succ])
          iterate 2
            (refine Pw.calm rfl (fun K hK => ?_)
             go_simp
             refine hK _ ?_
             clear hK K)
          (refine Pw.calm rfl (fun K hK => ?_)
           go_simp
           refine ⟨_, fun p => Row.Old.call (BSW.out p), hK _ ?_⟩
           clear hK K)
          rw [hbs]
          have HCB : Hid (cbad T k j = bs) := Lib.hid (HCB0.out.trans hbs)
          clear hbs HCB0
          cases bs with
          | true =>
            iterate 2
              (refine Pw.calm rfl (fun K hK => ?_)
               go_simp
               refine hK _ ?_
               clear hK K)
            refine Pw.nil ?_
            intro Wz hbz
            have hv : Boxed Wz (w.heap.size + 1 + 1) 4 (.bool false) := (hbz.block _ HV.out.lt).trans HV.out
            have hc := hv.cell
            have hf := hv.frozen
            clear CC CS hne
            gi_wp2
            exact ⟨HCB.out, grown_trans (grown_of_below hbz) (grownBy_setCell' _ _ _), hv.set (.bool true)⟩
          | false =>
            iterate 2
              (refine Pw.calm rfl (fun K hK => ?_)
               go_simp
               refine hK _ ?_
               clear hK K)
            refine Pw.nil ?_
            intro Wz hbz
            have hv : Boxed Wz (w.heap.size + 1 + 1) 4 (.bool false) := (hbz.block _ HV.out.lt).trans HV.out
            have hc := hv.cell
            have hf := hv.frozen
            clear CC CS hne
            gi_wp2
            exact ⟨HCB.out, hbz⟩
    case done =>
      intro D W hD hall hB hK
      have hv : Boxed W (w.heap.size + 1 + 1) 4 (.bool false) := (hB.block _ (by omega)).trans bR4
      have hc := hv.cell
      have hf := hv.frozen
      have HR2 : Hid (confBad T k = false) := Lib.hid (by rw [HR.out, List.any_eq_false]; intro x hx; simpa using hall x hx)
      have HB : Hid (Below w.heap.size w W) := Lib.hid (C0.out.trans (hB.mono C0.out.size))
      clear hB hall
      go_wp2
      have hv2 := hv.set (.bool false)
      have hK' := (KeepsOthers.setCell W ⟨w.heap.size + 1 + 1, 0, none⟩ (.bool false)).same D _ hK rfl
      refine ⟨by simp, .inl ⟨_, _, rfl, run_takeDeferred hK', ?_⟩⟩
      have hc5 := cell_kept hv2.cell (grownBy_putObj' _ D (.deferred none)) (fun r e => by cases e; exact ⟨_, hK', rfl⟩)
      refine ⟨.bool false, ?_, by rw [HR2.out], (HB.out.setCell (p := ⟨w.heap.size + 1 + 1, 0, none⟩) (by simp; omega) _).trans (belowK_b (w := w) (Nat.le_refl _) _ D _ _ (by omega) hK' rfl rfl)⟩
      simp [results, Tryz.f77, go_sem, hc5]
    case stop =>
      intro D x W hD hf hx hg hR hK
      have HR2 : Hid (confBad T k = true) := Lib.hid (by rw [HR.out, List.any_eq_true]; exact ⟨x, List.mem_of_find?_eq_some hf, hx⟩)
      have hv : Boxed W (w.heap.size + 1 + 1) 4 (.bool true) := hR
      have HB : Hid (Below w.heap.size w W) := Lib.hid (C0.out.grown hg (by omega) (fun k e => by cases e; omega))
      clear hf hx hg
      gi_wp2
      refine ⟨by simp, .inl ⟨_, _, rfl, run_takeDeferred hK, ?_⟩⟩
      have hc5 := cell_kept hv.cell (grownBy_putObj' _ D (.deferred none)) (fun r e => by cases e; exact ⟨_, hK, rfl⟩)
      refine ⟨.bool true, ?_, by rw [HR2.out], HB.out.trans (belowK_b (w := w) (Nat.le_refl _) W D _ _ (by omega) hK rfl rfl)⟩
      simp [results, Tryz.f77, go_sem, hc5]
end Go.Proofs.YtjolhoilcibdfaaGreat.ChkJ
/- The contract of the closure that package check's phases makes, for each of the three functions of a phase. -/
namespace Go.Proofs.YtjolhoilcibdfaaGreat.ChkP
open Go.RowKit Go.Shelf
open Tab PlaceM PlanM OnS ChkM Each Search ChkI ChkH
open ChkB (laid2)
open May (infoT)
set_option linter.unusedVariables false
set_option linter.unusedSimpArgs false
attribute [local go_sem] Oper.semAt_some
set_option maxRecDepth 100000 in
set_option maxHeartbeats 4000000 in
theorem phases_P (T : Tab) (h : Hd) (code : Int) (bb bc : Nat) (bad : Int → Bool) (w : World) (ht : IsTab w h T) (hbb : w.cell? ⟨bb, 0, none⟩ = some (.func (.func 75) #[] #[])) (hbc : w.cell? ⟨bc, 0, none⟩ = some (.int .i64 code))
    (hbad : ∀ (k : Nat) W, k < 8 → Below w.heap.size w W → Calls Tryz.prog 75 #[.agg (T.cells h).toArray, .int .i64 k] W fun e w' => e = .returned (.bool (bad k)) ∧ Below W.heap.size W w') :
    Calls Tryz.prog 109 #[.agg (T.cells h).toArray, .pointer (some ⟨bb, 0, none⟩), .pointer (some ⟨bc, 0, none⟩)] w fun e w' => e = .returned (.agg (fltC code ((ons T).find? bad))) ∧ Below w.heap.size w w' := by
  have hsz := (cells_ok ht).size
  have IA : Hid ((Tryz.prog.info? 32).map (·.size) = some (T.cells h).length) := Lib.hid (by rw [List.size_toArray] at hsz; rw [hsz]; exact infoT)
  have ON : Hid (∀ W, Below w.heap.size w W → Calls Tryz.prog 96 #[.agg (T.cells h).toArray] W fun e w' => e = .returned (.int .i64 (onS T : Nat)) ∧ Below W.heap.size W w') := Lib.hid (fun W hb => PlanO.pon_any T h W (ht.below hb))
  have LT0 := Lib.hid (Row.lies_new w (T.cells h).toArray 32)
  have HBAD := Lib.hid hbad
  have HBB := Lib.hid (show ∀ W, Below w.heap.size w W → W.cell? ⟨bb, 0, none⟩ = some (.func (.func 75) #[] #[]) from fun W hb => (hb.cell (World.block_lt_of_cell? w _ hbb)).trans hbb)
  have HBC := Lib.hid (show ∀ W, Below w.heap.size w W → W.cell? ⟨bc, 0, none⟩ = some (.int .i64 code) from fun W hb => (hb.cell (World.block_lt_of_cell? w _ hbc)).trans hbc)
  have hs1 : (w.alloc (.cells (T.cells h).toArray 32)).heap.size = w.heap.size + 1 := by simp
  have en := enters_of Tryz.func75 (by kernel_rfl) rfl
  clear ht hbad hbb hbc
  generalize T.cells h = c at *
  refine (callsIn_wide (n := 3)).1 ?_
  refine callsIn_of_wp_marks Tryz.func109 rfl trivial ?_ rfl
  simp only [Tryz.ntmps109, List.size_toArray, List.length_cons, List.length_nil, Nat.reduceAdd, Nat.reduceSub, Array.replicate_succ, Array.replicate_zero, List.push_toArray, List.append_toArray, List.nil_append, List.cons_append]
  refine wpIn_wide.2 ?_
  go_upto_region 1 with fail
  obtain ⟨W1, hW1, E1, E0, EB, bR⟩ := laid2 w (.cells c.toArray 32) (.cells #[.int .i64 0, .int .i64 0] 37)
  rw [hW1]
  have LT := Lib.hid (LT0.out.below (by rw [hs1]; exact EB))
  have B0 := Lib.hid E0
  clear hW1 EB hs1 hsz LT0 E0
  go_wp2_with (refine Row.wpList_load_g 32 _ rfl (by first | rfl | go_simp) ⟨w.heap.size, 0, none⟩ rfl c _ LT.out Tryz.underlying32 rfl IA.out ?_)
  refine (ON.out _ B0.out).mono ?_
  rintro e W3 ⟨rfl, hb⟩
  go_wp2_with fail
  refine (callsIn_wide.1 (Each.each_in 3 _ _)).mono ?_
  rintro e w' ⟨rfl, rfl⟩
  go_wp2_with fail
  have hb4 : Below W1.heap.size W1 (W3.alloc (.cells #[.int .i64 (onS T : Nat)] 3)) := hb.alloc hb.size _
  have bE : Boxed (W3.alloc (.cells #[.int .i64 (onS T : Nat)] 3)) W3.heap.size 3 (.int .i64 (onS T : Nat)) := Boxed.new _ _ _
  have hsz3 : (W3.alloc (.cells #[.int .i64 (onS T : Nat)] 3)).heap.size = W3.heap.size + 1 := by simp
  have hs3 := hb.size
  generalize W3.alloc (.cells #[.int .i64 (onS T : Nat)] 3) = W4 at hb4 bE hsz3 ⊢
  have bR4 : W4.heap[w.heap.size + 1]? = some (.cells #[.int .i64 0, .int .i64 0] 37 (0, 0)) := (hb4.block _ (by omega)).trans bR
  have LT4 := Lib.hid (LT.out.below hb4)
  have C0 : Hid (Below w.heap.size w W4) := Lib.hid (B0.out.trans (hb4.mono B0.out.size))
  have E4 : w.heap.size + 2 < W4.heap.size := by omega
  clear hb hb4 bR LT B0 hs3
  generalize W3.heap.size = be at *
  refine (wpIn_wide (n := 3)).1 ?_
  refine search bad (fun x => .cells #[.int .i64 code, .int .i64 x] 37 (0, 0)) be (w.heap.size + 1) (onS T : Nat) (by omega) rfl rfl (by omega) (by omega) bE.cell
    (fun x => { tmps := #[.agg c.toArray, .pointer (some ⟨bb, 0, none⟩), .pointer (some ⟨bc, 0, none⟩), .pointer (some ⟨w.heap.size, 0, none⟩), .pointer (some ⟨w.heap.size + 1, 0, none⟩), .int .i64 x, .agg c.toArray, .int .i64 (onS T : Nat), .func (.func 127) #[] #[.pointer (some ⟨be, 0, none⟩)], .int .i64 x, undef, undef, undef, undef, undef, undef, undef, undef], defers := [] }) ?assign ?body ?done ?stop
  case assign =>
    intro l x W K hK
    gi_wp2
    exact hK
  case body =>
    intro l x W hx hB
    have hx8 := SetM.list_bd _ x hx
    have LTW := Lib.hid (LT4.out.below hB)
    have BW : Hid (Below w.heap.size w W) := Lib.hid (C0.out.trans (hB.mono C0.out.size))
    have hbb := HBB.out _ BW.out
    have HVR : Hid (W.heap[w.heap.size + 1]? = some (.cells #[.int .i64 0, .int .i64 0] 37 (0, 0))) := Lib.hid ((hB.block _ (by omega)).trans bR4)
    obtain ⟨k, rfl⟩ := Int.eq_ofNat_of_zero_le hx8.1
    have hk8 : k < 8 := by have := hx8.2; omega
    have BD := Lib.hid (HBAD.out k _ hk8 BW.out)
    clear hB hx hx8
    refine wpIn_block (wpIn_seq ?_)
    refine Up.region_list (fun ⟨_, _, h⟩ => h) (by kernel_rfl) ?_
    go_wp2_with (refine Row.wpList_load_g 32 _ rfl (by first | rfl | go_simp) ⟨w.heap.size, 0, none⟩ rfl c _ LTW.out Tryz.underlying32 rfl IA.out ?_)
    refine (BD.out).mono ?_
    rintro e W2 ⟨rfl, hb⟩
    have HW2 := Lib.hid hb
    have hbc := HBC.out _ (BW.out.trans (hb.mono BW.out.size))
    have HV2 : Hid (W2.heap[w.heap.size + 1]? = some (.cells #[.int .i64 0, .int .i64 0] 37 (0, 0))) := Lib.hid ((hb.block _ (Array.getElem?_eq_some_iff.1 HVR.out).1).trans HVR.out)
    clear hb hbb
    cases hbk : bad k with
    | false =>
      have HB := Lib.hid hbk
      clear hbk
      go_wp2_with fail
      gi_wp2
      exact ⟨HB.out, HW2.out⟩
    | true =>
      have HB := Lib.hid hbk
      clear hbk
      have HK := Lib.hid (setRow_heap W2 (w.heap.size + 1) _ #[.int .i64 code, .int .i64 k] _ _ HV2.out)
      have HG : Hid (W2.grownBy (W2.setRow (w.heap.size + 1) #[.int .i64 code, .int .i64 k]) (some (w.heap.size + 1))) := Lib.hid (setRow_grown W2 (w.heap.size + 1) #[.int .i64 code, .int .i64 k] (Array.getElem?_eq_some_iff.1 HV2.out).1)
      go_wp2_with fail
      refine wpIn_cond_true rfl (wpIn_seq ?_)
      refine Up.region_list (fun ⟨_, _, h⟩ => h) (by kernel_rfl) ?_
      go_wp2_with (refine wpList_store_row rfl 37 _ _ rfl (w.heap.size + 1) #[.int .i64 code, .int .i64 k] rfl rfl 37 _ HV2.out infoF rfl (by simp [Value.oneCell']) ?_)
      generalize W2.setRow (w.heap.size + 1) #[.int .i64 code, .int .i64 k] = W5 at HK HG ⊢
      (try go_wp2_with fail)
      (try gi_wp2)
      exact ⟨HB.out, grown_trans (grown_of_below HW2.out) HG.out, HK.out⟩
  case done =>
    intro D W hD hall hB hK
    have B1 : Hid (W.heap[w.heap.size + 1]? = some (.cells #[.int .i64 0, .int .i64 0] 37 (0, 0))) := Lib.hid ((hB.block _ (by omega)).trans bR4)
    have HR : Hid ((ons T).find? bad = none) := Lib.hid (List.find?_eq_none.2 (fun x hx => by simp [hall x hx]))
    have HB : Hid (Below w.heap.size w W) := Lib.hid (C0.out.trans (hB.mono C0.out.size))
    have HW := Lib.hid (Same.below_setRow HB.out (g := w.heap.size + 1) (by omega) #[.int .i64 0, .int .i64 0])
    have HC := Lib.hid (setRow_heap W (w.heap.size + 1) _ #[.int .i64 0, .int .i64 0] _ _ B1.out)
    have hg := setRow_grown W (w.heap.size + 1) #[.int .i64 0, .int .i64 0] (Array.getElem?_eq_some_iff.1 B1.out).1
    have HK' : Hid ((W.setRow (w.heap.size + 1) #[.int .i64 0, .int .i64 0]).heap[D]? = some (.deferred (some []))) := Lib.hid ((hg.block D (Array.getElem?_eq_some_iff.1 hK).1 (fun e => by cases e; omega)).trans hK)
    clear hB hall hg hK
    go_wp2_with (refine wpList_store_row rfl 37 _ _ rfl (w.heap.size + 1) #[.int .i64 0, .int .i64 0] rfl rfl 37 _ B1.out infoF rfl (by simp [Value.oneCell']) ?_)
    generalize W.setRow (w.heap.size + 1) #[.int .i64 0, .int .i64 0] = W5 at HC HW HK' ⊢
    (try go_wp2_with fail)
    refine ⟨by simp, .inl ⟨_, _, rfl, run_takeDeferred HK'.out, ?_⟩⟩
    have hp : (W5.putObj D (.deferred none)).heap[w.heap.size + 1]? = some (.cells #[.int .i64 0, .int .i64 0] 37 (0, 0)) := (World.putObj_heap_other (by omega)).trans HC.out
    refine ⟨.agg #[.int .i64 0, .int .i64 0], ?_, by rw [HR.out]; rfl, HW.out.trans (belowK_b (w := w) (Nat.le_refl _) _ D _ _ (by omega) HK'.out rfl rfl)⟩
    exact results_cell_row rfl _ _ (w.heap.size + 1) 37 _ (0, 0) _ rfl hp Tryz.underlying37 rfl infoF
  case stop =>
    intro D x W hD hf hx hg hR hK
    have HR : Hid ((ons T).find? bad = some x) := Lib.hid hf
    have HC := Lib.hid hR
    have HB : Hid (Below w.heap.size w W) := Lib.hid (C0.out.grown hg (by omega) (fun k e => by cases e; omega))
    clear hf hx hg hR
    gi_wp2
    refine ⟨by simp, .inl ⟨_, _, rfl, run_takeDeferred hK, ?_⟩⟩
    have hp : (W.putObj D (.deferred none)).heap[w.heap.size + 1]? = some (.cells #[.int .i64 code, .int .i64 x] 37 (0, 0)) := (World.putObj_heap_other (by omega)).trans HC.out
    refine ⟨.agg #[.int .i64 code, .int .i64 x], ?_, by rw [HR.out]; rfl, HB.out.trans (belowK_b (w := w) (Nat.le_refl _) W D _ _ (by omega) hK rfl rfl)⟩
    exact results_cell_row rfl _ _ (w.heap.size + 1) 37 _ (0, 0) _ rfl hp Tryz.underlying37 rfl infoF
set_option maxRecDepth 100000 in
set_option maxHeartbeats 4000000 in
theorem phases_C (T : Tab) (h : Hd) (code : Int) (bb bc : Nat) (bad : Int → Bool) (w : World) (ht : IsTab w h T) (hbb : w.cell? ⟨bb, 0, none⟩ = some (.func (.func 77) #[] #[])) (hbc : w.cell? ⟨bc, 0, none⟩ = some (.int .i64 code))
    (hbad : ∀ (k : Nat) W, k < 8 → Below w.heap.size w W → Calls Tryz.prog 77 #[.agg (T.cells h).toArray, .int .i64 k] W fun e w' => e = .returned (.bool (bad k)) ∧ Below W.heap.size W w') :
    Calls Tryz.prog 109 #[.agg (T.cells h).toArray, .pointer (some ⟨bb, 0, none⟩), .pointer (some ⟨bc, 0, none⟩)] w fun e w' => e = .returned (.agg (fltC code ((ons T).find? bad))) ∧ Below w.heap.size w w' := by
  have hsz := (cells_ok ht).size
  have IA : Hid ((Tryz.prog.info? 32).map (·.size) = some (T.cells h).length) := Lib.hid (by rw [List.size_toArray] at hsz; rw [hsz]; exact infoT)
  have ON : Hid (∀ W, Below w.heap.size w W → Calls Tryz.prog 96 #[.agg (T.cells h).toArray] W fun e w' => e = .returned (.int .i64 (onS T : Nat)) ∧ Below W.heap.size W w') := Lib.hid (fun W hb => PlanO.pon_any T h W (ht.below hb))
  have LT0 := Lib.hid (Row.lies_new w (T.cells h).toArray 32)
  have HBAD := Lib.hid hbad
  have HBB := Lib.hid (show ∀ W, Below w.heap.size w W → W.cell? ⟨bb, 0, none⟩ = some (.func (.func 77) #[] #[]) from fun W hb => (hb.cell (World.block_lt_of_cell? w _ hbb)).trans hbb)
  have HBC := Lib.hid (show ∀ W, Below w.heap.size w W → W.cell? ⟨bc, 0, none⟩ = some (.int .i64 code) from fun W hb => (hb.cell (World.block_lt_of_cell? w _ hbc)).trans hbc)
  have hs1 : (w.alloc (.cells (T.cells h).toArray 32)).heap.size = w.heap.size + 1 := by simp
  have en := enters_of Tryz.func77 (by kernel_rfl) rfl
  clear ht hbad hbb hbc
  generalize T.cells h = c at *
  refine (callsIn_wide (n := 3)).1 ?_
  refine callsIn_of_wp_marks Tryz.func109 rfl trivial ?_ rfl
  simp only [Tryz.ntmps109, List.size_toArray, List.length_cons, List.length_nil, Nat.reduceAdd, Nat.reduceSub, Array.replicate_succ, Array.replicate_zero, List.push_toArray, List.append_toArray, List.nil_append, List.cons_append]
  refine wpIn_wide.2 ?_
  go_upto_region 1 with fail
  obtain ⟨W1, hW1, E1, E0, EB, bR⟩ := laid2 w (.cells c.toArray 32) (.cells #[.int .i64 0, .int .i64 0] 37)
  rw [hW1]
  have LT := Lib.hid (LT0.out.below (by rw [hs1]; exact EB))
  have B0 := Lib.hid E0
  clear hW1 EB hs1 hsz LT0 E0
  go_wp2_with (refine Row.wpList_load_g 32 _ rfl (by first | rfl | go_simp) ⟨w.heap.size, 0, none⟩ rfl c _ LT.out Tryz.underlying32 rfl IA.out ?_)
  refine (ON.out _ B0.out).mono ?_
  rintro e W3 ⟨rfl, hb⟩
  go_wp2_with fail
  refine (callsIn_wide.1 (Each.each_in 3 _ _)).mono ?_
  rintro e w' ⟨rfl, rfl⟩
  go_wp2_with fail
  have hb4 : Below W1.heap.size W1 (W3.alloc (.cells #[.int .i64 (onS T : Nat)] 3)) := hb.alloc hb.size _
  have bE : Boxed (W3.alloc (.cells #[.int .i64 (onS T : Nat)] 3)) W3.heap.size 3 (.int .i64 (onS T : Nat)) := Boxed.new _ _ _
  have hsz3 : (W3.alloc (.cells #[.int .i64 (onS T : Nat)] 3)).heap.size = W3.heap.size + 1 := by simp
  have hs3 := hb.size
  generalize W3.alloc (.cells #[.int .i64 (onS T : Nat)] 3) = W4 at hb4 bE hsz3 ⊢
  have bR4 : W4.heap[w.heap.size + 1]? = some (.cells #[.int .i64 0, .int .i64 0] 37 (0, 0)) := (hb4.block _ (by omega)).trans bR
  have LT4 := Lib.hid (LT.out.below hb4)
  have C0 : Hid (Below w.heap.size w W4) := Lib.hid (B0.out.trans (hb4.mono B0.out.size))
  have E4 : w.heap.size + 2 < W4.heap.size := by omega
  clear hb hb4 bR LT B0 hs3
  generalize W3.heap.size = be at *
  refine (wpIn_wide (n := 3)).1 ?_
  refine search bad (fun x => .cells #[.int .i64 code, .int .i64 x] 37 (0, 0)) be (w.heap.size + 1) (onS T : Nat) (by omega) rfl rfl (by omega) (by omega) bE.cell
    (fun x => { tmps := #[.agg c.toArray, .pointer (some ⟨bb, 0, none⟩), .pointer (some ⟨bc, 0, none⟩), .pointer (some ⟨w.heap.size, 0, none⟩), .pointer (some ⟨w.heap.size + 1, 0, none⟩), .int .i64 x, .agg c.toArray, .int .i64 (onS T : Nat), .func (.func 127) #[] #[.pointer (some ⟨be, 0, none⟩)], .int .i64 x, undef, undef, undef, undef, undef, undef, undef, undef], defers := [] }) ?assign ?body ?done ?stop
  case assign =>
    intro l x W K hK
    gi_wp2
    exact hK
  case body =>
    intro l x W hx hB
    have hx8 := SetM.list_bd _ x hx
    have LTW := Lib.hid (LT4.out.below hB)
    have BW : Hid (Below w.heap.size w W) := Lib.hid (C0.out.trans (hB.mono C0.out.size))
    have hbb := HBB.out _ BW.out
    have HVR : Hid (W.heap[w.heap.size + 1]? = some (.cells #[.int .i64 0, .int .i64 0] 37 (0, 0))) := Lib.hid ((hB.block _ (by omega)).trans bR4)
    obtain ⟨k, rfl⟩ := Int.eq_ofNat_of_zero_le hx8.1
    have hk8 : k < 8 := by have := hx8.2; omega
    have BD := Lib.hid (HBAD.out k _ hk8 BW.out)
    clear hB hx hx8
    refine wpIn_block (wpIn_seq ?_)
    refine Up.region_list (fun ⟨_, _, h⟩ => h) (by kernel_rfl) ?_
    go_wp2_with (refine Row.wpList_load_g 32 _ rfl (by first | rfl | go_simp) ⟨w.heap.size, 0, none⟩ rfl c _ LTW.out Tryz.underlying32 rfl IA.out ?_)
    refine (BD.out).mono ?_
    rintro e W2 ⟨rfl, hb⟩
    have HW2 := Lib.hid hb
    have hbc := HBC.out _ (BW.out.trans (hb.mono BW.out.size))
    have HV2 : Hid (W2.heap[w.heap.size + 1]? = some (.cells #[.int .i64 0, .int .i64 0] 37 (0, 0))) := Lib.hid ((hb.block _ (Array.getElem?_eq_some_iff.1 HVR.out).1).trans HVR.out)
    clear hb hbb
    cases hbk : bad k with
    | false =>
      have HB := Lib.hid hbk
      clear hbk
      go_wp2_with fail
      gi_wp2
      exact ⟨HB.out, HW2.out⟩
    | true =>
      have HB := Lib.hid hbk
      clear hbk
      have HK := Lib.hid (setRow_heap W2 (w.heap.size + 1) _ #[.int .i64 code, .int .i64 k] _ _ HV2.out)
      have HG : Hid (W2.grownBy (W2.setRow (w.heap.size + 1) #[.int .i64 code, .int .i64 k]) (some (w.heap.size + 1))) := Lib.hid (setRow_grown W2 (w.heap.size + 1) #[.int .i64 code, .int .i64 k] (Array.getElem?_eq_some_iff.1 HV2.out).1)
      go_wp2_with fail
      refine wpIn_cond_true rfl (wpIn_seq ?_)
      refine Up.region_list (fun ⟨_, _, h⟩ => h) (by kernel_rfl) ?_
      go_wp2_with (refine wpList_store_row rfl 37 _ _ rfl (w.heap.size + 1) #[.int .i64 code, .int .i64 k] rfl rfl 37 _ HV2.out infoF rfl (by simp [Value.oneCell']) ?_)
      generalize W2.setRow (w.heap.size + 1) #[.int .i64 code, .int .i64 k] = W5 at HK HG ⊢
      (try go_wp2_with fail)
      (try gi_wp2)
      exact ⟨HB.out, grown_trans (grown_of_below HW2.out) HG.out, HK.out⟩
  case done =>
    intro D W hD hall hB hK
    have B1 : Hid (W.heap[w.heap.size + 1]? = some (.cells #[.int .i64 0, .int .i64 0] 37 (0, 0))) := Lib.hid ((hB.block _ (by omega)).trans bR4)
    have HR : Hid ((ons T).find? bad = none) := Lib.hid (List.find?_eq_none.2 (fun x hx => by simp [hall x hx]))
    have HB : Hid (Below w.heap.size w W) := Lib.hid (C0.out.trans (hB.mono C0.out.size))
    have HW := Lib.hid (Same.below_setRow HB.out (g := w.heap.size + 1) (by omega) #[.int .i64 0, .int .i64 0])
    have HC := Lib.hid (setRow_heap W (w.heap.size + 1) _ #[.int .i64 0, .int .i64 0] _ _ B1.out)
    have hg := setRow_grown W (w.heap.size + 1) #[.int .i64 0, .int .i64 0] (Array.getElem?_eq_some_iff.1 B1.out).1
    have HK' : Hid ((W.setRow (w.heap.size + 1) #[.int .i64 0, .int .i64 0]).heap[D]? = some (.deferred (some []))) := Lib.hid ((hg.block D (Array.getElem?_eq_some_iff.1 hK).1 (fun e => by cases e; omega)).trans hK)
    clear hB hall hg hK
    go_wp2_with (refine wpList_store_row rfl 37 _ _ rfl (w.heap.size + 1) #[.int .i64 0, .int .i64 0] rfl rfl 37 _ B1.out infoF rfl (by simp [Value.oneCell']) ?_)
    generalize W.setRow (w.heap.size + 1) #[.int .i64 0, .int .i64 0] = W5 at HC HW HK' ⊢
    (try go_wp2_with fail)
    refine ⟨by simp, .inl ⟨_, _, rfl, run_takeDeferred HK'.out, ?_⟩⟩
    have hp : (W5.putObj D (.deferred none)).heap[w.heap.size + 1]? = some (.cells #[.int .i64 0, .int .i64 0] 37 (0, 0)) := (World.putObj_heap_other (by omega)).trans HC.out
    refine ⟨.agg #[.int .i64 0, .int .i64 0], ?_, by rw [HR.out]; rfl, HW.out.trans (belowK_b (w := w) (Nat.le_refl _) _ D _ _ (by omega) HK'.out rfl rfl)⟩
    exact results_cell_row rfl _ _ (w.heap.size + 1) 37 _ (0, 0) _ rfl hp Tryz.underlying37 rfl infoF
  case stop =>
    intro D x W hD hf hx hg hR hK
    have HR : Hid ((ons T).find? bad = some x) := Lib.hid hf
    have HC := Lib.hid hR
    have HB : Hid (Below w.heap.size w W) := Lib.hid (C0.out.grown hg (by omega) (fun k e => by cases e; omega))
    clear hf hx hg hR
    gi_wp2
    refine ⟨by simp, .inl ⟨_, _, rfl, run_takeDeferred hK, ?_⟩⟩
    have hp : (W.putObj D (.deferred none)).heap[w.heap.size + 1]? = some (.cells #[.int .i64 code, .int .i64 x] 37 (0, 0)) := (World.putObj_heap_other (by omega)).trans HC.out
    refine ⟨.agg #[.int .i64 code, .int .i64 x], ?_, by rw [HR.out]; rfl, HB.out.trans (belowK_b (w := w) (Nat.le_refl _) W D _ _ (by omega) hK rfl rfl)⟩
    exact results_cell_row rfl _ _ (w.heap.size + 1) 37 _ (0, 0) _ rfl hp Tryz.underlying37 rfl infoF
set_option maxRecDepth 100000 in
set_option maxHeartbeats 4000000 in
theorem phases_F (T : Tab) (h : Hd) (code : Int) (bb bc : Nat) (bad : Int → Bool) (w : World) (ht : IsTab w h T) (hbb : w.cell? ⟨bb, 0, none⟩ = some (.func (.func 87) #[] #[])) (hbc : w.cell? ⟨bc, 0, none⟩ = some (.int .i64 code))
    (hbad : ∀ (k : Nat) W, k < 8 → Below w.heap.size w W → Calls Tryz.prog 87 #[.agg (T.cells h).toArray, .int .i64 k] W fun e w' => e = .returned (.bool (bad k)) ∧ Below W.heap.size W w') :
    Calls Tryz.prog 109 #[.agg (T.cells h).toArray, .pointer (some ⟨bb, 0, none⟩), .pointer (some ⟨bc, 0, none⟩)] w fun e w' => e = .returned (.agg (fltC code ((ons T).find? bad))) ∧ Below w.heap.size w w' := by
  have hsz := (cells_ok ht).size
  have IA : Hid ((Tryz.prog.info? 32).map (·.size) = some (T.cells h).length) := Lib.hid (by rw [List.size_toArray] at hsz; rw [hsz]; exact infoT)
  have ON : Hid (∀ W, Below w.heap.size w W → Calls Tryz.prog 96 #[.agg (T.cells h).toArray] W fun e w' => e = .returned (.int .i64 (onS T : Nat)) ∧ Below W.heap.size W w') := Lib.hid (fun W hb => PlanO.pon_any T h W (ht.below hb))
  have LT0 := Lib.hid (Row.lies_new w (T.cells h).toArray 32)
  have HBAD := Lib.hid hbad
  have HBB := Lib.hid (show ∀ W, Below w.heap.size w W → W.cell? ⟨bb, 0, none⟩ = some (.func (.func 87) #[] #[]) from fun W hb => (hb.cell (World.block_lt_of_cell? w _ hbb)).trans hbb)
  have HBC := Lib.hid (show ∀ W, Below w.heap.size w W → W.cell? ⟨bc, 0, none⟩ = some (.int .i64 code) from fun W hb => (hb.cell (World.block_lt_of_cell? w _ hbc)).trans hbc)
  have hs1 : (w.alloc (.cells (T.cells h).toArray 32)).heap.size = w.heap.size + 1 := by simp
  have en := enters_of Tryz.func87 (by kernel_rfl) rfl
  clear ht hbad hbb hbc
  generalize T.cells h = c at *
  refine (callsIn_wide (n := 3)).1 ?_
  refine callsIn_of_wp_marks Tryz.func109 rfl trivial ?_ rfl
  simp only [Tryz.ntmps109, List.size_toArray, List.length_cons, List.length_nil, Nat.reduceAdd, Nat.reduceSub, Array.replicate_succ, Array.replicate_zero, List.push_toArray, List.append_toArray, List.nil_append, List.cons_append]
  refine wpIn_wide.2 ?_
  go_upto_region 1 with fail
  obtain ⟨W1, hW1, E1, E0, EB, bR⟩ := laid2 w (.cells c.toArray 32) (.cells #[.int .i64 0, .int .i64 0] 37)
  rw [hW1]
  have LT := Lib.hid (LT0.out.below (by rw [hs1]; exact EB))
  have B0 := Lib.hid E0
  clear hW1 EB hs1 hsz LT0 E0
  go_wp2_with (refine Row.wpList_load_g 32 _ rfl (by first | rfl | go_simp) ⟨w.heap.size, 0, none⟩ rfl c _ LT.out Tryz.underlying32 rfl IA.out ?_)
  refine (ON.out _ B0.out).mono ?_
  rintro e W3 ⟨rfl, hb⟩
  go_wp2_with fail
  refine (callsIn_wide.1 (Each.each_in 3 _ _)).mono ?_
  rintro e w' ⟨rfl, rfl⟩
  go_wp2_with fail
  have hb4 : Below W1.heap.size W1 (W3.alloc (.cells #[.int .i64 (onS T : Nat)] 3)) := hb.alloc hb.size _
  have bE : Boxed (W3.alloc (.cells #[.int .i64 (onS T : Nat)] 3)) W3.heap.size 3 (.int .i64 (onS T : Nat)) := Boxed.new _ _ _
  have hsz3 : (W3.alloc (.cells #[.int .i64 (onS T : Nat)] 3)).heap.size = W3.heap.size + 1 := by simp
  have hs3 := hb.size
  generalize W3.alloc (.cells #[.int .i64 (onS T : Nat)] 3) = W4 at hb4 bE hsz3 ⊢
  have bR4 : W4.heap[w.heap.size + 1]? = some (.cells #[.int .i64 0, .int .i64 0] 37 (0, 0)) := (hb4.block _ (by omega)).trans bR
  have LT4 := Lib.hid (LT.out.below hb4)
  have C0 : Hid (Below w.heap.size w W4) := Lib.hid (B0.out.trans (hb4.mono B0.out.size))
  have E4 : w.heap.size + 2 < W4.heap.size := by omega
  clear hb hb4 bR LT B0 hs3
  generalize W3.heap.size = be at *
  refine (wpIn_wide (n := 3)).1 ?_
  refine search bad (fun x => .cells #[.int .i64 code, .int .i64 x] 37 (0, 0)) be (w.heap.size + 1) (onS T : Nat) (by omega) rfl rfl (by omega) (by omega) bE.cell
    (fun x => { tmps := #[.agg c.toArray, .pointer (some ⟨bb, 0, none⟩), .pointer (some ⟨bc, 0, none⟩), .pointer (some ⟨w.heap.size, 0, none⟩), .pointer (some ⟨w.heap.size + 1, 0, none⟩), .int .i64 x, .agg c.toArray, .int .i64 (onS T : Nat), .func (.func 127) #[] #[.pointer (some ⟨be, 0, none⟩)], .int .i64 x, undef, undef, undef, undef, undef, undef, undef, undef], defers := [] }) ?assign ?body ?done ?stop
  case assign =>
    intro l x W K hK
    gi_wp2
    exact hK
  case body =>
    intro l x W hx hB
    have hx8 := SetM.list_bd _ x hx
    have LTW := Lib.hid (LT4.out.below hB)
    have BW : Hid (Below w.heap.size w W) := Lib.hid (C0.out.trans (hB.mono C0.out.size))
    have hbb := HBB.out _ BW.out
    have HVR : Hid (W.heap[w.heap.size + 1]? = some (.cells #[.int .i64 0, .int .i64 0] 37 (0, 0))) := Lib.hid ((hB.block _ (by omega)).trans bR4)
    obtain ⟨k, rfl⟩ := Int.eq_ofNat_of_zero_le hx8.1
    have hk8 : k < 8 := by have := hx8.2; omega
    have BD := Lib.hid (HBAD.out k _ hk8 BW.out)
    clear hB hx hx8
    refine wpIn_block (wpIn_seq ?_)
    refine Up.region_list (fun ⟨_, _, h⟩ => h) (by kernel_rfl) ?_
    go_wp2_with (refine Row.wpList_load_g 32 _ rfl (by first | rfl | go_simp) ⟨w.heap.size, 0, none⟩ rfl c _ LTW.out Tryz.underlying32 rfl IA.out ?_)
    refine (BD.out).mono ?_
    rintro e W2 ⟨rfl, hb⟩
    have HW2 := Lib.hid hb
    have hbc := HBC.out _ (BW.out.trans (hb.mono BW.out.size))
    have HV2 : Hid (W2.heap[w.heap.size + 1]? = some (.cells #[.int .i64 0, .int .i64 0] 37 (0, 0))) := Lib.hid ((hb.block _ (Array.getElem?_eq_some_iff.1 HVR.out).1).trans HVR.out)
    clear hb hbb
    cases hbk : bad k with
    | false =>
      have HB := Lib.hid hbk
      clear hbk
      go_wp2_with fail
      gi_wp2
      exact ⟨HB.out, HW2.out⟩
    | true =>
      have HB := Lib.hid hbk
      clear hbk
      have HK := Lib.hid (setRow_heap W2 (w.heap.size + 1) _ #[.int .i64 code, .int .i64 k] _ _ HV2.out)
      have HG : Hid (W2.grownBy (W2.setRow (w.heap.size + 1) #[.int .i64 code, .int .i64 k]) (some (w.heap.size + 1))) := Lib.hid (setRow_grown W2 (w.heap.size + 1) #[.int .i64 code, .int .i64 k] (Array.getElem?_eq_some_iff.1 HV2.out).1)
      go_wp2_with fail
      refine wpIn_cond_true rfl (wpIn_seq ?_)
      refine Up.region_list (fun ⟨_, _, h⟩ => h) (by kernel_rfl) ?_
      go_wp2_with (refine wpList_store_row rfl 37 _ _ rfl (w.heap.size + 1) #[.int .i64 code, .int .i64 k] rfl rfl 37 _ HV2.out infoF rfl (by simp [Value.oneCell']) ?_)
      generalize W2.setRow (w.heap.size + 1) #[.int .i64 code, .int .i64 k] = W5 at HK HG ⊢
      (try go_wp2_with fail)
      (try gi_wp2)
      exact ⟨HB.out, grown_trans (grown_of_below HW2.out) HG.out, HK.out⟩
  case done =>
    intro D W hD hall hB hK
    have B1 : Hid (W.heap[w.heap.size + 1]? = some (.cells #[.int .i64 0, .int .i64 0] 37 (0, 0))) := Lib.hid ((hB.block _ (by omega)).trans bR4)
    have HR : Hid ((ons T).find? bad = none) := Lib.hid (List.find?_eq_none.2 (fun x hx => by simp [hall x hx]))
    have HB : Hid (Below w.heap.size w W) := Lib.hid (C0.out.trans (hB.mono C0.out.size))
    have HW := Lib.hid (Same.below_setRow HB.out (g := w.heap.size + 1) (by omega) #[.int .i64 0, .int .i64 0])
    have HC := Lib.hid (setRow_heap W (w.heap.size + 1) _ #[.int .i64 0, .int .i64 0] _ _ B1.out)
    have hg := setRow_grown W (w.heap.size + 1) #[.int .i64 0, .int .i64 0] (Array.getElem?_eq_some_iff.1 B1.out).1
    have HK' : Hid ((W.setRow (w.heap.size + 1) #[.int .i64 0, .int .i64 0]).heap[D]? = some (.deferred (some []))) := Lib.hid ((hg.block D (Array.getElem?_eq_some_iff.1 hK).1 (fun e => by cases e; omega)).trans hK)
    clear hB hall hg hK
    go_wp2_with (refine wpList_store_row rfl 37 _ _ rfl (w.heap.size + 1) #[.int .i64 0, .int .i64 0] rfl rfl 37 _ B1.out infoF rfl (by simp [Value.oneCell']) ?_)
    generalize W.setRow (w.heap.size + 1) #[.int .i64 0, .int .i64 0] = W5 at HC HW HK' ⊢
    (try go_wp2_with fail)
    refine ⟨by simp, .inl ⟨_, _, rfl, run_takeDeferred HK'.out, ?_⟩⟩
    have hp : (W5.putObj D (.deferred none)).heap[w.heap.size + 1]? = some (.cells #[.int .i64 0, .int .i64 0] 37 (0, 0)) := (World.putObj_heap_other (by omega)).trans HC.out
    refine ⟨.agg #[.int .i64 0, .int .i64 0], ?_, by rw [HR.out]; rfl, HW.out.trans (belowK_b (w := w) (Nat.le_refl _) _ D _ _ (by omega) HK'.out rfl rfl)⟩
    exact results_cell_row rfl _ _ (w.heap.size + 1) 37 _ (0, 0) _ rfl hp Tryz.underlying37 rfl infoF
  case stop =>
    intro D x W hD hf hx hg hR hK
    have HR : Hid ((ons T).find? bad = some x) := Lib.hid hf
    have HC := Lib.hid hR
    have HB : Hid (Below w.heap.size w W) := Lib.hid (C0.out.grown hg (by omega) (fun k e => by cases e; omega))
    clear hf hx hg hR
    gi_wp2
    refine ⟨by simp, .inl ⟨_, _, rfl, run_takeDeferred hK, ?_⟩⟩
    have hp : (W.putObj D (.deferred none)).heap[w.heap.size + 1]? = some (.cells #[.int .i64 code, .int .i64 x] 37 (0, 0)) := (World.putObj_heap_other (by omega)).trans HC.out
    refine ⟨.agg #[.int .i64 code, .int .i64 x], ?_, by rw [HR.out]; rfl, HB.out.trans (belowK_b (w := w) (Nat.le_refl _) W D _ _ (by omega) hK rfl rfl)⟩
    exact results_cell_row rfl _ _ (w.heap.size + 1) 37 _ (0, 0) _ rfl hp Tryz.underlying37 rfl infoF
end Go.Proofs.YtjolhoilcibdfaaGreat.ChkP
/- The contracts of package check's phases and elements (which make closures) and of rules. -/
namespace Go.Proofs.YtjolhoilcibdfaaGreat.ChkQ
open Go.ChangeShapes Go.WideShapes Go.ChangeAt Go.RowKit
open Tab ChkM ChkH
open ChkB (laid2)
open Each (Kept)
set_option linter.unusedVariables false
set_option linter.unusedSimpArgs false
set_option maxHeartbeats 1000000 in
theorem mkphases_P (code : Int) (w : World) : Calls Tryz.prog 74 #[.int .i64 code, .func (.func 75) #[] #[]] w fun e w' =>
    e = .returned (.func (.func 109) #[] #[.pointer (some ⟨w.heap.size + 1, 0, none⟩), .pointer (some ⟨w.heap.size, 0, none⟩)]) ∧ w' = (w.alloc (.cells #[.int .i64 code] 35)).alloc (.cells #[.func (.func 75) #[] #[]] 86) := by
  go_enter Tryz.func74, Tryz.ntmps74
  go_wp2
  go_ret
  exact ⟨rfl, rfl⟩
set_option maxHeartbeats 1000000 in
theorem mkphases_C (code : Int) (w : World) : Calls Tryz.prog 74 #[.int .i64 code, .func (.func 77) #[] #[]] w fun e w' =>
    e = .returned (.func (.func 109) #[] #[.pointer (some ⟨w.heap.size + 1, 0, none⟩), .pointer (some ⟨w.heap.size, 0, none⟩)]) ∧ w' = (w.alloc (.cells #[.int .i64 code] 35)).alloc (.cells #[.func (.func 77) #[] #[]] 86) := by
  go_enter Tryz.func74, Tryz.ntmps74
  go_wp2
  go_ret
  exact ⟨rfl, rfl⟩
set_option maxHeartbeats 1000000 in
theorem mkphases_F (code : Int) (w : World) : Calls Tryz.prog 74 #[.int .i64 code, .func (.func 87) #[] #[]] w fun e w' =>
    e = .returned (.func (.func 109) #[] #[.pointer (some ⟨w.heap.size + 1, 0, none⟩), .pointer (some ⟨w.heap.size, 0, none⟩)]) ∧ w' = (w.alloc (.cells #[.int .i64 code] 35)).alloc (.cells #[.func (.func 87) #[] #[]] 86) := by
  go_enter Tryz.func74, Tryz.ntmps74
  go_wp2
  go_ret
  exact ⟨rfl, rfl⟩
set_option maxHeartbeats 1000000 in
theorem mkelem_D (code : Int) (w : World) : Calls Tryz.prog 78 #[.int .i64 code, .func (.func 79) #[] #[], .func (.func 80) #[] #[]] w fun e w' =>
    e = .returned (.func (.func 113) #[] #[.pointer (some ⟨w.heap.size + 1, 0, none⟩), .pointer (some ⟨w.heap.size + 1 + 1, 0, none⟩), .pointer (some ⟨w.heap.size, 0, none⟩)]) ∧ w' = ((w.alloc (.cells #[.int .i64 code] 35)).alloc (.cells #[.func (.func 79) #[] #[]] 102)).alloc (.cells #[.func (.func 80) #[] #[]] 103) := by
  go_enter Tryz.func78, Tryz.ntmps78
  go_wp2
  go_ret
  exact ⟨rfl, rfl⟩
set_option maxHeartbeats 1000000 in
theorem mkelem_R (code : Int) (w : World) : Calls Tryz.prog 81 #[.int .i64 code, .func (.func 82) #[] #[], .func (.func 83) #[] #[]] w fun e w' =>
    e = .returned (.func (.func 114) #[] #[.pointer (some ⟨w.heap.size + 1, 0, none⟩), .pointer (some ⟨w.heap.size + 1 + 1, 0, none⟩), .pointer (some ⟨w.heap.size, 0, none⟩)]) ∧ w' = ((w.alloc (.cells #[.int .i64 code] 35)).alloc (.cells #[.func (.func 82) #[] #[]] 105)).alloc (.cells #[.func (.func 83) #[] #[]] 106) := by
  go_enter Tryz.func81, Tryz.ntmps81
  go_wp2
  go_ret
  exact ⟨rfl, rfl⟩
set_option maxHeartbeats 1000000 in
theorem mkelem_B (code : Int) (w : World) : Calls Tryz.prog 84 #[.int .i64 code, .func (.func 85) #[] #[], .func (.func 86) #[] #[]] w fun e w' =>
    e = .returned (.func (.func 119) #[] #[.pointer (some ⟨w.heap.size + 1, 0, none⟩), .pointer (some ⟨w.heap.size + 1 + 1, 0, none⟩), .pointer (some ⟨w.heap.size, 0, none⟩)]) ∧ w' = ((w.alloc (.cells #[.int .i64 code] 35)).alloc (.cells #[.func (.func 85) #[] #[]] 108)).alloc (.cells #[.func (.func 86) #[] #[]] 109) := by
  go_enter Tryz.func84, Tryz.ntmps84
  go_wp2
  go_ret
  exact ⟨rfl, rfl⟩
/-- The eight rules as function values; their boxes lie behind n. -/
def fns (n : Nat) : Array Value := #[.func (.func 73) #[] #[], .func (.func 109) #[] #[.pointer (some ⟨n + 1 + 1, 0, none⟩), .pointer (some ⟨n + 1, 0, none⟩)], .func (.func 76) #[] #[], .func (.func 109) #[] #[.pointer (some ⟨n + 3 + 1, 0, none⟩), .pointer (some ⟨n + 3, 0, none⟩)], .func (.func 113) #[] #[.pointer (some ⟨n + 5 + 1, 0, none⟩), .pointer (some ⟨n + 5 + 1 + 1, 0, none⟩), .pointer (some ⟨n + 5, 0, none⟩)], .func (.func 114) #[] #[.pointer (some ⟨n + 8 + 1, 0, none⟩), .pointer (some ⟨n + 8 + 1 + 1, 0, none⟩), .pointer (some ⟨n + 8, 0, none⟩)], .func (.func 119) #[] #[.pointer (some ⟨n + 11 + 1, 0, none⟩), .pointer (some ⟨n + 11 + 1 + 1, 0, none⟩), .pointer (some ⟨n + 11, 0, none⟩)], .func (.func 109) #[] #[.pointer (some ⟨n + 14 + 1, 0, none⟩), .pointer (some ⟨n + 14, 0, none⟩)]]
/-- What the boxes of the rules hold. -/
structure Lie (n : Nat) (W : World) : Prop where
  c1 : W.cell? ⟨n + 1, 0, none⟩ = some (.int .i64 7)
  c2 : W.cell? ⟨n + 2, 0, none⟩ = some (.func (.func 75) #[] #[])
  c3 : W.cell? ⟨n + 3, 0, none⟩ = some (.int .i64 9)
  c4 : W.cell? ⟨n + 4, 0, none⟩ = some (.func (.func 77) #[] #[])
  c5 : W.cell? ⟨n + 5, 0, none⟩ = some (.int .i64 10)
  c6 : W.cell? ⟨n + 6, 0, none⟩ = some (.func (.func 79) #[] #[])
  c7 : W.cell? ⟨n + 7, 0, none⟩ = some (.func (.func 80) #[] #[])
  c8 : W.cell? ⟨n + 8, 0, none⟩ = some (.int .i64 11)
  c9 : W.cell? ⟨n + 9, 0, none⟩ = some (.func (.func 82) #[] #[])
  c10 : W.cell? ⟨n + 10, 0, none⟩ = some (.func (.func 83) #[] #[])
  c11 : W.cell? ⟨n + 11, 0, none⟩ = some (.int .i64 12)
  c12 : W.cell? ⟨n + 12, 0, none⟩ = some (.func (.func 85) #[] #[])
  c13 : W.cell? ⟨n + 13, 0, none⟩ = some (.func (.func 86) #[] #[])
  c14 : W.cell? ⟨n + 14, 0, none⟩ = some (.int .i64 13)
  c15 : W.cell? ⟨n + 15, 0, none⟩ = some (.func (.func 87) #[] #[])
theorem Lie.below {n : Nat} {W W' : World} (h : Lie n W) (hb : Below W.heap.size W W') : Lie n W' :=
  ⟨(hb.cell (World.block_lt_of_cell? W _ h.c1)).trans h.c1, (hb.cell (World.block_lt_of_cell? W _ h.c2)).trans h.c2, (hb.cell (World.block_lt_of_cell? W _ h.c3)).trans h.c3, (hb.cell (World.block_lt_of_cell? W _ h.c4)).trans h.c4, (hb.cell (World.block_lt_of_cell? W _ h.c5)).trans h.c5, (hb.cell (World.block_lt_of_cell? W _ h.c6)).trans h.c6, (hb.cell (World.block_lt_of_cell? W _ h.c7)).trans h.c7, (hb.cell (World.block_lt_of_cell? W _ h.c8)).trans h.c8, (hb.cell (World.block_lt_of_cell? W _ h.c9)).trans h.c9, (hb.cell (World.block_lt_of_cell? W _ h.c10)).trans h.c10, (hb.cell (World.block_lt_of_cell? W _ h.c11)).trans h.c11, (hb.cell (World.block_lt_of_cell? W _ h.c12)).trans h.c12, (hb.cell (World.block_lt_of_cell? W _ h.c13)).trans h.c13, (hb.cell (World.block_lt_of_cell? W _ h.c14)).trans h.c14, (hb.cell (World.block_lt_of_cell? W _ h.c15)).trans h.c15⟩
theorem new_size {w W : World} {o : Obj} (h : w.alloc o = W) : W.heap.size = w.heap.size + 1 := by rw [← h]; simp
theorem new_cell {w W : World} {v : Value} {t : TypeId} (h : w.alloc (.cells #[v] t) = W) {k : Nat} (hk : w.heap.size = k) : W.cell? ⟨k, 0, none⟩ = some v := by
  subst hk; rw [← h]; exact Boxed.cell (Boxed.new w t v)
theorem new_old {w W : World} {o : Obj} (h : w.alloc o = W) {a : Addr} {v : Value} (hc : w.cell? a = some v) : W.cell? a = some v := by
  rw [← h]; exact (((Below.refl w.heap.size w).alloc (Nat.le_refl _) o).cell (World.block_lt_of_cell? w _ hc)).trans hc
theorem new_below {w W : World} {o : Obj} (h : w.alloc o = W) {v : World} {b : Nat} (hb : Below b v w) (hs : b ≤ w.heap.size) : Below b v W := by rw [← h]; exact hb.alloc hs o
theorem new_heap {w W : World} {o : Obj} (h : w.alloc o = W) {k : Nat} {x : Obj} (hx : w.heap[k]? = some x) : W.heap[k]? = some x := by
  rw [← h]; exact (Below.heap_alloc w o k (Array.getElem?_eq_some_iff.1 hx).1).trans hx
theorem infoA : (Tryz.prog.info? 80).map (·.size) = some 8 := by kernel_rfl
set_option maxRecDepth 100000 in
set_option maxHeartbeats 8000000 in
theorem rules_any (w : World) : Calls Tryz.prog 47 #[] w fun e w' => e = .returned (.agg (fns w.heap.size)) ∧ Lie w.heap.size w' ∧ Below w.heap.size w w' := by
  go_enter Tryz.func47, Tryz.ntmps47
  go_upto_region 1 with fail
  have h0 := heap_alloc_new w (.cells #[.nilFunc, .nilFunc, .nilFunc, .nilFunc, .nilFunc, .nilFunc, .nilFunc, .nilFunc] 80)
  have s0 : (w.alloc (.cells #[.nilFunc, .nilFunc, .nilFunc, .nilFunc, .nilFunc, .nilFunc, .nilFunc, .nilFunc] 80)).heap.size = w.heap.size + 1 := by simp
  have b0 : Below w.heap.size w (w.alloc (.cells #[.nilFunc, .nilFunc, .nilFunc, .nilFunc, .nilFunc, .nilFunc, .nilFunc, .nilFunc] 80)) := (Below.refl _ _).alloc (Nat.le_refl _) _
  generalize w.alloc (.cells #[.nilFunc, .nilFunc, .nilFunc, .nilFunc, .nilFunc, .nilFunc, .nilFunc, .nilFunc] 80) = u0 at h0 s0 b0 ⊢
  generalize hn : w.heap.size = n at *
  have HN := Lib.hid hn
  clear hn
  go_wp2_with fail
  refine (mkphases_P _ _).mono ?_
  rintro e w' ⟨rfl, rfl⟩
  obtain ⟨u1, hu⟩ : ∃ W, u0.alloc (.cells #[.int .i64 7] 35) = W := ⟨_, rfl⟩
  rw [hu]
  have s1 : u1.heap.size = n + 2 := by rw [new_size hu, s0]
  have c1 : u1.cell? ⟨n + 1, 0, none⟩ = some (.int .i64 7) := new_cell hu s0
  have h0 := new_heap hu h0
  have b0 := new_below hu b0 (by omega)
  clear hu
  obtain ⟨u2, hu⟩ : ∃ W, u1.alloc (.cells #[.func (.func 75) #[] #[]] 86) = W := ⟨_, rfl⟩
  rw [hu]
  have s2 : u2.heap.size = n + 3 := by rw [new_size hu, s1]
  have c1 := new_old hu c1
  have c2 : u2.cell? ⟨n + 2, 0, none⟩ = some (.func (.func 75) #[] #[]) := new_cell hu s1
  have h0 := new_heap hu h0
  have b0 := new_below hu b0 (by omega)
  clear hu
  rw [s0]
  go_wp2_with fail
  refine (mkphases_C _ _).mono ?_
  rintro e w' ⟨rfl, rfl⟩
  obtain ⟨u3, hu⟩ : ∃ W, u2.alloc (.cells #[.int .i64 9] 35) = W := ⟨_, rfl⟩
  rw [hu]
  have s3 : u3.heap.size = n + 4 := by rw [new_size hu, s2]
  have c1 := new_old hu c1
  have c2 := new_old hu c2
  have c3 : u3.cell? ⟨n + 3, 0, none⟩ = some (.int .i64 9) := new_cell hu s2
  have h0 := new_heap hu h0
  have b0 := new_below hu b0 (by omega)
  clear hu
  obtain ⟨u4, hu⟩ : ∃ W, u3.alloc (.cells #[.func (.func 77) #[] #[]] 86) = W := ⟨_, rfl⟩
  rw [hu]
  have s4 : u4.heap.size = n + 5 := by rw [new_size hu, s3]
  have c1 := new_old hu c1
  have c2 := new_old hu c2
  have c3 := new_old hu c3
  have c4 : u4.cell? ⟨n + 4, 0, none⟩ = some (.func (.func 77) #[] #[]) := new_cell hu s3
  have h0 := new_heap hu h0
  have b0 := new_below hu b0 (by omega)
  clear hu
  rw [s2]
  go_wp2_with fail
  refine (mkelem_D _ _).mono ?_
  rintro e w' ⟨rfl, rfl⟩
  obtain ⟨u5, hu⟩ : ∃ W, u4.alloc (.cells #[.int .i64 10] 35) = W := ⟨_, rfl⟩
  rw [hu]
  have s5 : u5.heap.size = n + 6 := by rw [new_size hu, s4]
  have c1 := new_old hu c1
  have c2 := new_old hu c2
  have c3 := new_old hu c3
  have c4 := new_old hu c4
  have c5 : u5.cell? ⟨n + 5, 0, none⟩ = some (.int .i64 10) := new_cell hu s4
  have h0 := new_heap hu h0
  have b0 := new_below hu b0 (by omega)
  clear hu
  obtain ⟨u6, hu⟩ : ∃ W, u5.alloc (.cells #[.func (.func 79) #[] #[]] 102) = W := ⟨_, rfl⟩
  rw [hu]
  have s6 : u6.heap.size = n + 7 := by rw [new_size hu, s5]
  have c1 := new_old hu c1
  have c2 := new_old hu c2
  have c3 := new_old hu c3
  have c4 := new_old hu c4
  have c5 := new_old hu c5
  have c6 : u6.cell? ⟨n + 6, 0, none⟩ = some (.func (.func 79) #[] #[]) := new_cell hu s5
  have h0 := new_heap hu h0
  have b0 := new_below hu b0 (by omega)
  clear hu
  obtain ⟨u7, hu⟩ : ∃ W, u6.alloc (.cells #[.func (.func 80) #[] #[]] 103) = W := ⟨_, rfl⟩
  rw [hu]
  have s7 : u7.heap.size = n + 8 := by rw [new_size hu, s6]
  have c1 := new_old hu c1
  have c2 := new_old hu c2
  have c3 := new_old hu c3
  have c4 := new_old hu c4
  have c5 := new_old hu c5
  have c6 := new_old hu c6
  have c7 : u7.cell? ⟨n + 7, 0, none⟩ = some (.func (.func 80) #[] #[]) := new_cell hu s6
  have h0 := new_heap hu h0
  have b0 := new_below hu b0 (by omega)
  clear hu
  rw [s4]
  go_wp2_with fail
  refine (mkelem_R _ _).mono ?_
  rintro e w' ⟨rfl, rfl⟩
  obtain ⟨u8, hu⟩ : ∃ W, u7.alloc (.cells #[.int .i64 11] 35) = W := ⟨_, rfl⟩
  rw [hu]
  have s8 : u8.heap.size = n + 9 := by rw [new_size hu, s7]
  have c1 := new_old hu c1
  have c2 := new_old hu c2
  have c3 := new_old hu c3
  have c4 := new_old hu c4
  have c5 := new_old hu c5
  have c6 := new_old hu c6
  have c7 := new_old hu c7
  have c8 : u8.cell? ⟨n + 8, 0, none⟩ = some (.int .i64 11) := new_cell hu s7
  have h0 := new_heap hu h0
  have b0 := new_below hu b0 (by omega)
  clear hu
  obtain ⟨u9, hu⟩ : ∃ W, u8.alloc (.cells #[.func (.func 82) #[] #[]] 105) = W := ⟨_, rfl⟩
  rw [hu]
  have s9 : u9.heap.size = n + 10 := by rw [new_size hu, s8]
  have c1 := new_old hu c1
  have c2 := new_old hu c2
  have c3 := new_old hu c3
  have c4 := new_old hu c4
  have c5 := new_old hu c5
  have c6 := new_old hu c6
  have c7 := new_old hu c7
  have c8 := new_old hu c8
  have c9 : u9.cell? ⟨n + 9, 0, none⟩ = some (.func (.func 82) #[] #[]) := new_cell hu s8
  have h0 := new_heap hu h0
  have b0 := new_below hu b0 (by omega)
  clear hu
  obtain ⟨u10, hu⟩ : ∃ W, u9.alloc (.cells #[.func (.func 83) #[] #[]] 106) = W := ⟨_, rfl⟩
  rw [hu]
  have s10 : u10.heap.size = n + 11 := by rw [new_size hu, s9]
  have c1 := new_old hu c1
  have c2 := new_old hu c2
  have c3 := new_old hu c3
  have c4 := new_old hu c4
  have c5 := new_old hu c5
  have c6 := new_old hu c6
  have c7 := new_old hu c7
  have c8 := new_old hu c8
  have c9 := new_old hu c9
  have c10 : u10.cell? ⟨n + 10, 0, none⟩ = some (.func (.func 83) #[] #[]) := new_cell hu s9
  have h0 := new_heap hu h0
  have b0 := new_below hu b0 (by omega)
  clear hu
  rw [s7]
  go_wp2_with fail
  refine (mkelem_B _ _).mono ?_
  rintro e w' ⟨rfl, rfl⟩
  obtain ⟨u11, hu⟩ : ∃ W, u10.alloc (.cells #[.int .i64 12] 35) = W := ⟨_, rfl⟩
  rw [hu]
  have s11 : u11.heap.size = n + 12 := by rw [new_size hu, s10]
  have c1 := new_old hu c1
  have c2 := new_old hu c2
  have c3 := new_old hu c3
  have c4 := new_old hu c4
  have c5 := new_old hu c5
  have c6 := new_old hu c6
  have c7 := new_old hu c7
  have c8 := new_old hu c8
  have c9 := new_old hu c9
  have c10 := new_old hu c10
  have c11 : u11.cell? ⟨n + 11, 0, none⟩ = some (.int .i64 12) := new_cell hu s10
  have h0 := new_heap hu h0
  have b0 := new_below hu b0 (by omega)
  clear hu
  obtain ⟨u12, hu⟩ : ∃ W, u11.alloc (.cells #[.func (.func 85) #[] #[]] 108) = W := ⟨_, rfl⟩
  rw [hu]
  have s12 : u12.heap.size = n + 13 := by rw [new_size hu, s11]
  have c1 := new_old hu c1
  have c2 := new_old hu c2
  have c3 := new_old hu c3
  have c4 := new_old hu c4
  have c5 := new_old hu c5
  have c6 := new_old hu c6
  have c7 := new_old hu c7
  have c8 := new_old hu c8
  have c9 := new_old hu c9
  have c10 := new_old hu c10
  have c11 := new_old hu c11
  have c12 : u12.cell? ⟨n + 12, 0, none⟩ = some (.func (.func 85) #[] #[]) := new_cell hu s11
  have h0 := new_heap hu h0
  have b0 := new_below hu b0 (by omega)
  clear hu
  obtain ⟨u13, hu⟩ : ∃ W, u12.alloc (.cells #[.func (.func 86) #[] #[]] 109) = W := ⟨_, rfl⟩
  rw [hu]
  have s13 : u13.heap.size = n + 14 := by rw [new_size hu, s12]
  have c1 := new_old hu c1
  have c2 := new_old hu c2
  have c3 := new_old hu c3
  have c4 := new_old hu c4
  have c5 := new_old hu c5
  have c6 := new_old hu c6
  have c7 := new_old hu c7
  have c8 := new_old hu c8
  have c9 := new_old hu c9
  have c10 := new_old hu c10
  have c11 := new_old hu c11
  have c12 := new_old hu c12
  have c13 : u13.cell? ⟨n + 13, 0, none⟩ = some (.func (.func 86) #[] #[]) := new_cell hu s12
  have h0 := new_heap hu h0
  have b0 := new_below hu b0 (by omega)
  clear hu
  rw [s10]
  go_wp2_with fail
  refine (mkphases_F _ _).mono ?_
  rintro e w' ⟨rfl, rfl⟩
  obtain ⟨u14, hu⟩ : ∃ W, u13.alloc (.cells #[.int .i64 13] 35) = W := ⟨_, rfl⟩
  rw [hu]
  have s14 : u14.heap.size = n + 15 := by rw [new_size hu, s13]
  have c1 := new_old hu c1
  have c2 := new_old hu c2
  have c3 := new_old hu c3
  have c4 := new_old hu c4
  have c5 := new_old hu c5
  have c6 := new_old hu c6
  have c7 := new_old hu c7
  have c8 := new_old hu c8
  have c9 := new_old hu c9
  have c10 := new_old hu c10
  have c11 := new_old hu c11
  have c12 := new_old hu c12
  have c13 := new_old hu c13
  have c14 : u14.cell? ⟨n + 14, 0, none⟩ = some (.int .i64 13) := new_cell hu s13
  have h0 := new_heap hu h0
  have b0 := new_below hu b0 (by omega)
  clear hu
  obtain ⟨u15, hu⟩ : ∃ W, u14.alloc (.cells #[.func (.func 87) #[] #[]] 86) = W := ⟨_, rfl⟩
  rw [hu]
  have s15 : u15.heap.size = n + 16 := by rw [new_size hu, s14]
  have c1 := new_old hu c1
  have c2 := new_old hu c2
  have c3 := new_old hu c3
  have c4 := new_old hu c4
  have c5 := new_old hu c5
  have c6 := new_old hu c6
  have c7 := new_old hu c7
  have c8 := new_old hu c8
  have c9 := new_old hu c9
  have c10 := new_old hu c10
  have c11 := new_old hu c11
  have c12 := new_old hu c12
  have c13 := new_old hu c13
  have c14 := new_old hu c14
  have c15 : u15.cell? ⟨n + 15, 0, none⟩ = some (.func (.func 87) #[] #[]) := new_cell hu s14
  have h0 := new_heap hu h0
  have b0 := new_below hu b0 (by omega)
  clear hu
  rw [s13]
  have LI : Lie n u15 := ⟨c1, c2, c3, c4, c5, c6, c7, c8, c9, c10, c11, c12, c13, c14, c15⟩
  have hsz : n ≤ u15.heap.size := by omega
  have HW : Below n w (u15.setRow n (fns n)) := b0.trans (Same.below_setRow (Below.refl n u15) (Nat.le_refl _) (fns n))
  have HK := Lib.hid (setRow_heap u15 n _ (fns n) _ _ h0)
  have HL : Lie n (u15.setRow n (fns n)) := ⟨(Kept.cell (o := 0) (setRow_other u15 n (n + 1) (fns n) (by omega))).trans c1, (Kept.cell (o := 0) (setRow_other u15 n (n + 2) (fns n) (by omega))).trans c2, (Kept.cell (o := 0) (setRow_other u15 n (n + 3) (fns n) (by omega))).trans c3, (Kept.cell (o := 0) (setRow_other u15 n (n + 4) (fns n) (by omega))).trans c4, (Kept.cell (o := 0) (setRow_other u15 n (n + 5) (fns n) (by omega))).trans c5, (Kept.cell (o := 0) (setRow_other u15 n (n + 6) (fns n) (by omega))).trans c6, (Kept.cell (o := 0) (setRow_other u15 n (n + 7) (fns n) (by omega))).trans c7, (Kept.cell (o := 0) (setRow_other u15 n (n + 8) (fns n) (by omega))).trans c8, (Kept.cell (o := 0) (setRow_other u15 n (n + 9) (fns n) (by omega))).trans c9, (Kept.cell (o := 0) (setRow_other u15 n (n + 10) (fns n) (by omega))).trans c10, (Kept.cell (o := 0) (setRow_other u15 n (n + 11) (fns n) (by omega))).trans c11, (Kept.cell (o := 0) (setRow_other u15 n (n + 12) (fns n) (by omega))).trans c12, (Kept.cell (o := 0) (setRow_other u15 n (n + 13) (fns n) (by omega))).trans c13, (Kept.cell (o := 0) (setRow_other u15 n (n + 14) (fns n) (by omega))).trans c14, (Kept.cell (o := 0) (setRow_other u15 n (n + 15) (fns n) (by omega))).trans c15⟩
  have H1 := Lib.hid HW
  have H2 := Lib.hid HL
  clear HW HL c1 c2 c3 c4 c5 c6 c7 c8 c9 c10 c11 c12 c13 c14 c15 LI s0 s1 s2 s3 s4 s5 s6 s7 s8 s9 s10 s11 s12 s13 s14 s15 b0
  go_wp2_with (refine wpList_store_row rfl 80 _ _ rfl n (fns n) rfl rfl 80 _ h0 infoA rfl (by simp [fns, Value.oneCell']) ?_)
  (try go_wp2_with fail)
  generalize u15.setRow n (fns n) = uz at HK H1 H2 ⊢
  (try simp only [Exit.inBlock, Exit.then])
  refine bodyPost_ret (v := .agg (fns n)) ?_ rfl (by rw [HN.out]; exact ⟨rfl, H2.out, H1.out⟩)
  exact results_cell_row rfl _ _ n 80 _ (0, 0) _ rfl HK.out Tryz.underlying80 rfl infoA
end Go.Proofs.YtjolhoilcibdfaaGreat.ChkQ
/- The contracts of package check's yellows and badFlash. -/
namespace Go.Proofs.YtjolhoilcibdfaaGreat.ChkY
open Go.RowKit Go.Shelf
open Tab PlaceM PlanM OnS ChkM Each Search ChkI
open ChkB (laid2)
open May (infoT ret_bool)
set_option linter.unusedVariables false
set_option linter.unusedSimpArgs false
attribute [local go_sem] Oper.semAt_some
def yS (T : Tab) (l : List Int) : Nat := SetM.of (l.filter (yel T))
theorem yS_hit {T : Tab} {l : List Int} {x : Int} (h : yel T x = true) : SetM.withN (yS T l : Nat) x = yS T (l ++ [x]) := by
  unfold yS; rw [SetM.with_of, List.filter_append]; simp [h]
theorem yS_miss {T : Tab} {l : List Int} {x : Int} (h : yel T x = false) : yS T (l ++ [x]) = yS T l := by
  unfold yS; rw [List.filter_append]; simp [h]
set_option maxRecDepth 100000 in
set_option maxHeartbeats 4000000 in
theorem yellows_any (T : Tab) (h : Hd) (w : World) (ht : IsTab w h T) :
    Calls Tryz.prog 120 #[.agg (T.cells h).toArray] w fun e w' => e = .returned (.int .i64 (yellows T : Nat)) ∧ Below w.heap.size w w' := by
  have hsz := (cells_ok ht).size
  have IA : Hid ((Tryz.prog.info? 32).map (·.size) = some (T.cells h).length) := Lib.hid (by rw [List.size_toArray] at hsz; rw [hsz]; exact infoT)
  have ON : Hid (∀ W, Below w.heap.size w W → Calls Tryz.prog 96 #[.agg (T.cells h).toArray] W fun e w' => e = .returned (.int .i64 (onS T : Nat)) ∧ Below W.heap.size W w') := Lib.hid (fun W hb => PlanO.pon_any T h W (ht.below hb))
  have LT0 := Lib.hid (Row.lies_new w (T.cells h).toArray 32)
  have BX0 := Lib.hid (bxd_new ht)
  have hs1 : (w.alloc (.cells (T.cells h).toArray 32)).heap.size = w.heap.size + 1 := by simp
  have YR : Hid (yellows T = yS T (SetM.list (onS T : Nat))) := Lib.hid rfl
  clear ht
  generalize T.cells h = c at *
  refine (callsIn_wide (n := 3)).1 ?_
  refine callsIn_of_wp_marks Tryz.func120 rfl trivial ?_ rfl
  simp only [Tryz.ntmps120, List.size_toArray, List.length_cons, List.length_nil, Nat.reduceAdd, Nat.reduceSub, Array.replicate_succ, Array.replicate_zero, List.push_toArray, List.append_toArray, List.nil_append, List.cons_append]
  refine wpIn_wide.2 ?_
  go_upto_region 2 with fail
  obtain ⟨W1, hW1, E1, E0, EB, bR⟩ := laid2 w (.cells c.toArray 32) (.cells #[.int .i64 0] 3)
  rw [hW1]
  have LT := Lib.hid (LT0.out.below (by rw [hs1]; exact EB))
  have BX := Lib.hid (BX0.out.below (by rw [hs1]; exact EB))
  have B0 := Lib.hid E0
  clear hW1 EB hs1 hsz LT0 E0 BX0
  go_wp2_with (refine Row.wpList_load_g 32 _ rfl (by first | rfl | go_simp) ⟨w.heap.size, 0, none⟩ rfl c _ LT.out Tryz.underlying32 rfl IA.out ?_)
  refine (ON.out _ B0.out).mono ?_
  rintro e W3 ⟨rfl, hb⟩
  go_wp2_with fail
  refine (callsIn_wide.1 (Each.each_in 3 _ _)).mono ?_
  rintro e w' ⟨rfl, rfl⟩
  go_wp2_with fail
  have hb4 : Below W1.heap.size W1 (W3.alloc (.cells #[.int .i64 (onS T : Nat)] 3)) := hb.alloc hb.size _
  have bE : Boxed (W3.alloc (.cells #[.int .i64 (onS T : Nat)] 3)) W3.heap.size 3 (.int .i64 (onS T : Nat)) := Boxed.new _ _ _
  have hsz3 : (W3.alloc (.cells #[.int .i64 (onS T : Nat)] 3)).heap.size = W3.heap.size + 1 := by simp
  have hs3 := hb.size
  generalize W3.alloc (.cells #[.int .i64 (onS T : Nat)] 3) = W4 at hb4 bE hsz3 ⊢
  have bR4 : Boxed W4 (w.heap.size + 1) 3 (.int .i64 0) := (hb4.block _ (by omega)).trans bR
  have BX4 := Lib.hid (BX.out.below hb4)
  have C0 : Hid (Below w.heap.size w W4) := Lib.hid (B0.out.trans (hb4.mono B0.out.size))
  have E4 : w.heap.size + 2 < W4.heap.size := by omega
  have E5 : W3.heap.size < W4.heap.size := by omega
  have E6 : w.heap.size + 1 < W3.heap.size := by omega
  clear hb hb4 bR LT B0 hs3 BX
  generalize W3.heap.size = be at *
  refine (wpIn_wide (n := 3)).1 ?_
  refine wpIn_rangeFunc_ownG rfl (by omega) (gf := 127) (lb := #[.pointer (some ⟨be, 0, none⟩)]) rfl trivial (enters_of Tryz.func127 (by kernel_rfl) rfl)
    (each_mem _ (by omega) be (onS T : Nat) W4 (by omega) bE.cell) Kept.trans (kept_b E5) (Below.refl _ _) (fun _ => rfl)
    (fun pre W => Boxed W (w.heap.size + 1) 3 (.int .i64 (yS T (pre.map Subtype.val) : Nat)) ∧ W4.grownBy W (some (w.heap.size + 1)))
    (fun _ _ _ => False)
    ?own (fun _ _ _ _ _ hs _ _ => hs) ⟨bR4, grown_of_below (Below.refl _ _)⟩
    (fun x => { tmps := #[.agg c.toArray, .pointer (some ⟨w.heap.size, 0, none⟩), .int .i64 0, .pointer (some ⟨w.heap.size + 1, 0, none⟩), .int .i64 x.1, .agg c.toArray, .int .i64 (onS T : Nat), .func (.func 127) #[] #[.pointer (some ⟨be, 0, none⟩)], .int .i64 x.1, undef, undef, undef, undef, undef, undef, undef, undef, undef], defers := [] }) ?assign ?body ?done ?stop
  case own =>
    rintro pre W W' row ⟨h1, h2⟩ hgr hr
    exact ⟨h1.kept hgr (fun e => by have := (hr _ e.symm).1; omega), grown_from h2 hgr (fun r e => (hr r e).1)⟩
  case assign =>
    intro l x W K hK
    gi_wp2
    exact hK
  case body =>
    rintro l pre ⟨x, hx⟩ W ⟨hv, hg⟩ hlt
    have hx8 := SetM.list_bd _ x hx
    obtain ⟨j, rfl⟩ := Int.eq_ofNat_of_zero_le hx8.1
    have hj8 : ((j : Nat) : Int) < 8 := hx8.2
    have cc0 := BX4.out.fl j (by omega) (by omega)
    rw [Int.toNat_natCast] at cc0
    have cc : W.cell? ⟨w.heap.size, 121 + j, none⟩ = some (I (flAt T j)) := (Kept.cell (o := 121 + j) (hg.block w.heap.size (by omega) (fun e => by have := Option.some.inj e; omega))).trans cc0
    have hc := hv.cell
    have hf := hv.frozen
    dsimp only
    by_cases hy : flAt T j = 2
    · have HY := Lib.hid (yS_hit (l := pre.map Subtype.val) (show yel T j = true by unfold yel; rw [hy]; rfl))
      gi_wp2_with (refine ⟨trivial, ?_⟩; gi_at_call 124; refine (CallsIn.inRound l (callsIn_wide.2 (SetP.with_any _ _ _))).mono ?_; rintro e w' ⟨rfl, rfl⟩)
      exact ⟨(KeepsOthers.setCell _ _ _).from _, Kept.setCell _ _ (by omega), by rw [List.map_append, List.map_cons, List.map_nil, ← HY.out]; exact hv.set _, grown_trans hg (grownBy_setCell' _ _ _)⟩
    · have HY := Lib.hid (yS_miss (l := pre.map Subtype.val) (show yel T j = false by unfold yel; rw [beq_eq_false_iff_ne]; exact hy))
      gi_wp2
      exact ⟨KeepsFrom.refl _ _, rfl, by rw [List.map_append, List.map_cons, List.map_nil, HY.out]; exact hv, hg⟩
  case done =>
    rintro D ys W hD hS ⟨hv, hg⟩ hK
    have hc := hv.cell
    have HR : Hid (yS T (ys.map Subtype.val) = yellows T) := Lib.hid (by rw [hS]; exact YR.out.symm)
    have HB : Hid (Below w.heap.size w W) := Lib.hid (C0.out.grown hg (by omega) (fun k e => by cases e; omega))
    clear hg
    go_wp2
    refine ⟨by simp, .inl ⟨_, _, rfl, run_takeDeferred hK, ?_⟩⟩
    exact ⟨_, results_tmp rfl _ _ _, by rw [show yellows T = yS T (SetM.list (onS T : Nat)) from YR.out]; rfl, HB.out.trans (belowK_b (w := w) (Nat.le_refl _) _ D _ _ (by omega) hK rfl rfl)⟩
  case stop =>
    rintro D c pre W hD _ h _
    exact h.elim
set_option maxRecDepth 100000 in
set_option maxHeartbeats 4000000 in
theorem badFlash_any (T : Tab) (h : Hd) (k : Nat) (hk : k < 8) (w : World) (ht : IsTab w h T) :
    Calls Tryz.prog 87 #[.agg (T.cells h).toArray, .int .i64 k] w fun e w' => e = .returned (.bool (flashBad T k)) ∧ Below w.heap.size w w' := by
  have hsz := (cells_ok ht).size
  have IA : Hid ((Tryz.prog.info? 32).map (·.size) = some (T.cells h).length) := Lib.hid (by rw [List.size_toArray] at hsz; rw [hsz]; exact infoT)
  have YE : Hid (∀ W, Below w.heap.size w W → Calls Tryz.prog 120 #[.agg (T.cells h).toArray] W fun e w' => e = .returned (.int .i64 (yellows T : Nat)) ∧ Below W.heap.size W w') := Lib.hid (fun W hb => yellows_any T h W (ht.below hb))
  have LT0 := Lib.hid (Row.lies_new w (T.cells h).toArray 32)
  have BX0 := Lib.hid (bxd_new ht)
  have A0 : Hid (Below w.heap.size w (w.alloc (.cells (T.cells h).toArray 32))) := Lib.hid ((Below.refl _ _).alloc (Nat.le_refl _) _)
  obtain ⟨x, hx⟩ : ∃ x, x = flashBad T k := ⟨_, rfl⟩
  rw [← hx]
  have HR : Hid (x = (flAt T k == 0 || (flAt T k == 2 && bits .and .i64 (cfAt T k) (yellows T : Nat) != 0))) := Lib.hid hx
  clear ht hx
  generalize T.cells h = c at *
  have hki : ((k : Nat) : Int) < 8 := by omega
  go_enter Tryz.func87, Tryz.ntmps87
  go_upto_region 1 with fail
  generalize w.alloc (.cells c.toArray 32) = u at A0 LT0 BX0 ⊢
  clear hsz
  have cf := BX0.out.fl k (by omega) (by omega)
  have cc := BX0.out.cf k (by omega) (by omega)
  rw [Int.toNat_natCast] at cf cc
  have CCH := Lib.hid cc
  clear cc
  generalize flAt T k = fl at *
  by_cases h0 : fl = 0
  · subst h0
    have HX : Hid (true = x) := Lib.hid (by rw [HR.out]; rfl)
    go_wp2
    go_ret
    exact ⟨ret_bool HX.out, A0.out⟩
  by_cases h2 : fl = 2
  · subst h2
    have HX : Hid (x = (bits .and .i64 (cfAt T k) (yellows T : Nat) != 0)) := Lib.hid (by rw [HR.out]; rfl)
    clear h0 HR
    generalize yellows T = m at HX YE
    have hne : Nonempty (Ph.S (Row.Old u)) := ⟨⟨0, u, Below.refl _ _⟩⟩
    have CC : ∀ p : Ph.S (Row.Old u), p.world.cell? ⟨w.heap.size, 105 + k, none⟩ = some (I (cfAt T k)) := fun p => (p.is.cell (World.block_lt_of_cell? u _ CCH.out)).trans CCH.out
    have YW : Hid (∀ p : Ph.S (Row.Old u), Calls Tryz.prog 120 #[.agg c.toArray] p.world fun e w' => e = .returned (.int .i64 (m : Nat)) ∧ Below p.world.heap.size p.world w') := Lib.hid (fun p => YE.out _ (A0.out.trans (p.is.mono A0.out.size)))
    clear YE
    generalize cfAt T k = cv at *
    go_upto_region 5 with fail
    refine Pw.region (Row.Old u) [] hmx (by kernel_rfl) (Row.Old.drew _) ?_
    iterate 4
      (refine Pw.calm rfl (fun K hK => ?_)
       go_simp
       refine hK _ ?_
       clear hK K)
    refine Pw.load rfl (by rfl) 32 _ rfl ⟨w.heap.size, 0, none⟩ rfl c _ (fun p => LT0.out.below p.is) Tryz.underlying32 rfl IA.out ?_
    (try dsimp only [Act.put]); (try simp only [List.setIfInBounds_toArray, List.set_cons_zero, List.set_cons_succ])
    (refine Pw.calm rfl (fun K hK => ?_)
     go_simp
     refine ⟨_, fun p => Row.Old.call (YW.out p), hK _ ?_⟩
     clear hK K)
    iterate 3
      (refine Pw.calm rfl (fun K hK => ?_)
       go_simp
       refine hK _ ?_
       clear hK K)
    refine Pw.nil ?_
    intro uz hb
    have EZ := Lib.hid (A0.out.trans (hb.mono A0.out.size))
    clear hb CC hne
    go_wp2
    go_ret
    exact ⟨ret_bool HX.out.symm, EZ.out⟩
  · have HX : Hid (false = x) := Lib.hid (by rw [HR.out]; simp [h0, h2])
    go_wp2
    go_ret
    exact ⟨ret_bool HX.out, A0.out⟩
end Go.Proofs.YtjolhoilcibdfaaGreat.ChkY
/- The contract of package check's abreast: a search in a search. -/
namespace Go.Proofs.YtjolhoilcibdfaaGreat.ChkN
open Go.RowKit Go.Shelf
open Tab PlaceM PlanM OnS ChkM Each Search ChkI
open May (infoT ret_bool)
set_option linter.unusedVariables false
set_option linter.unusedSimpArgs false
theorem without_any (s p : Int) (w : World) : Calls Tryz.prog 141 #[.int .i64 s, .int .i64 p] w fun e w' => e = .returned (.int .i64 (SetM.withoutN s p)) ∧ w = w' := by
  rw [← SetM.without_bits]
  go_enter Tryz.func141, Tryz.ntmps141
  go_wp2_with (go_at_call 123; refine (SetP.bit_any _ _).mono ?_; rintro e w' ⟨rfl, rfl⟩)
  go_ret
  exact ⟨rfl, rfl⟩
attribute [local go_sem] Oper.semAt_some
def besAll (T : Tab) (s p : Int) : Bool := (SetM.list (SetM.withoutN s p : Nat)).all fun q => beside T p q
set_option maxRecDepth 100000 in
set_option maxHeartbeats 8000000 in
theorem abreast_any (T : Tab) (h : Hd) (s : Int) (w : World) (ht : IsTab w h T) :
    Calls Tryz.prog 117 #[.agg (T.cells h).toArray, .int .i64 s] w fun e w' => e = .returned (.bool (abreast T s)) ∧ Below w.heap.size w w' := by
  have hsz := (cells_ok ht).size
  have IA : Hid ((Tryz.prog.info? 32).map (·.size) = some (T.cells h).length) := Lib.hid (by rw [List.size_toArray] at hsz; rw [hsz]; exact infoT)
  have BS : Hid (∀ (p q : Int) W, Below w.heap.size w W → Calls Tryz.prog 112 #[.agg (T.cells h).toArray, .int .i64 p, .int .i64 q] W fun e w' => e = .returned (.bool (beside T p q)) ∧ Below W.heap.size W w') := Lib.hid (fun p q W hb => PlanW.pbeside_any T h p q W (ht.below hb))
  have LT0 := Lib.hid (Row.lies_new w (T.cells h).toArray 32)
  have hs1 : (w.alloc (.cells (T.cells h).toArray 32)).heap.size = w.heap.size + 1 := by simp
  have AR : Hid (abreast T s = (SetM.list s).all (besAll T s)) := Lib.hid rfl
  clear ht
  generalize T.cells h = c at *
  refine (callsIn_wide (n := 6)).1 ?_
  refine callsIn_of_wp_marks Tryz.func117 rfl trivial ?_ rfl
  simp only [Tryz.ntmps117, List.size_toArray, List.length_cons, List.length_nil, Nat.reduceAdd, Nat.reduceSub, Array.replicate_succ, Array.replicate_zero, List.push_toArray, List.append_toArray, List.nil_append, List.cons_append]
  gi_wp2_with fail
  refine ⟨trivial, (Each.each_in _ _ _).mono ?_⟩
  rintro e w' ⟨rfl, rfl⟩
  gi_wp2_with fail
  obtain ⟨W0, hW0, E1, E0, EB, bS, bR, bE⟩ := laid4 w (.cells c.toArray 32) (.cells #[.int .i64 s] 3) (.cells #[.bool false] 4) (.cells #[.int .i64 s] 3)
  rw [hW0]
  have LT := Lib.hid (LT0.out.below (by rw [hs1]; exact EB))
  clear hW0 EB hs1 hsz LT0
  have bS : Boxed W0 (w.heap.size + 1) 3 (.int .i64 s) := bS
  have bR : Boxed W0 (w.heap.size + 1 + 1) 4 (.bool false) := bR
  have bE : Boxed W0 (w.heap.size + 1 + 1 + 1) 3 (.int .i64 s) := bE
  refine wpIn_rangeFunc_ownH rfl (by omega) (gf := 127) (lb := #[.pointer (some ⟨w.heap.size + 1 + 1 + 1, 0, none⟩)]) rfl trivial (enters_of Tryz.func127 (by kernel_rfl) rfl)
    (each_mem _ (by omega) (w.heap.size + 1 + 1 + 1) s W0 (by omega) bE.cell) Kept.trans (kept_b (by omega)) (Below.refl _ _) (fun _ => rfl)
    (fun pre W => (∀ y ∈ pre, besAll T s y.1 = true) ∧ Below W0.heap.size W0 W)
    (fun c pre W => (c = .ret ∧ (∃ y ∈ pre, besAll T s y.1 = false) ∧ W.heap[w.heap.size + 1 + 1]? = some (.cells #[.bool false] 4 (0, 0))) ∧ W0.grownBy W (some (w.heap.size + 1 + 1)))
    (OwnFrom.and (ownFrom_pure _ _) (ownFrom_below (Nat.le_refl _) (Nat.le_refl _)))
    ?own ⟨by simp, Below.refl _ _⟩
    (fun x a' W => ∃ Bx, W0.heap.size ≤ Bx ∧ Boxed W Bx 3 (.int .i64 x.1) ∧ a' = { tmps := #[.agg c.toArray, .int .i64 s, .pointer (some ⟨w.heap.size, 0, none⟩), .pointer (some ⟨w.heap.size + 1, 0, none⟩), .pointer (some ⟨w.heap.size + 1 + 1, 0, none⟩), .pointer (some ⟨Bx, 0, none⟩), undef, .int .i64 s, .func (.func 127) #[] #[.pointer (some ⟨w.heap.size + 1 + 1 + 1, 0, none⟩)], .int .i64 x.1, undef, undef, undef, undef, undef, undef, undef, undef, undef, undef], defers := [] })
    (fun x a' _ X Y row hs hg hr => by obtain ⟨Bx, e1, e2, e3⟩ := hs; exact ⟨Bx, e1, boxed_own Bx 3 (fun (_ : Unit) => Value.int .i64 x.1) () X Y row e2 hg (fun r e => (hr r e).2), e3⟩)
    ?assign ?body ?done ?stop
  case own =>
    rintro c pre W W' row ⟨⟨h1, h2, h5⟩, hg⟩ hgr hr
    have hlt : w.heap.size + 1 + 1 < W.heap.size := (Array.getElem?_eq_some_iff.1 h5).1
    exact ⟨⟨h1, h2, (hgr.block _ hlt (fun e => by have := (hr _ e.symm).1; omega)).trans h5⟩, grown_from hg hgr (fun r e => (hr r e).1)⟩
  case assign =>
    rintro l pre x W K ⟨hp, hB⟩ hK
    gi_wp2
    exact hK _ _ ((KeepsOthers.alloc _ _).from _) (Kept.below ((Below.refl W.heap.size W).alloc (Nat.le_refl _) _) (by have := hB.size; omega)) ⟨hp, hB.alloc hB.size _⟩ ⟨W.heap.size, hB.size, Boxed.new W 3 _, rfl⟩
  case body =>
    rintro l pre ⟨x, hx⟩ a' W hl ⟨r, hr⟩ ⟨hp, hB⟩ ⟨Bx, hBx, bX, rfl⟩ hlt
    have cX := bX.cell
    have cS := (Boxed.cell (show Boxed W (w.heap.size + 1) 3 (.int .i64 s) from (hB.block _ (by omega)).trans bS))
    gi_wp2_with (first | (refine ⟨trivial, ?_⟩; gi_at_call 141; refine (CallsIn.inRound l (callsIn_wide.2 (without_any _ _ _))).mono ?_; rintro e w' ⟨rfl, rfl⟩) | (refine ⟨trivial, ?_⟩; gi_at_call 104; refine (CallsIn.inRound l (Each.each_in _ _ _)).mono ?_; rintro e w' ⟨rfl, rfl⟩))
    have bN := Boxed.new W 3 (.int .i64 (SetM.withoutN s x : Nat))
    have hr' : (W.alloc (.cells #[.int .i64 (SetM.withoutN s x : Nat)] 3)).heap[l]? = some (.loop r) := (Below.heap_alloc W _ l (Array.getElem?_eq_some_iff.1 hr).1).trans hr
    have hb5 : Below W.heap.size W (W.alloc (.cells #[.int .i64 (SetM.withoutN s x : Nat)] 3)) := (Below.refl _ W).alloc (Nat.le_refl _) _
    have hs5 : (W.alloc (.cells #[.int .i64 (SetM.withoutN s x : Nat)] 3)).heap.size = W.heap.size + 1 := by simp
    have bX5 : Boxed (W.alloc (.cells #[.int .i64 (SetM.withoutN s x : Nat)] 3)) Bx 3 (.int .i64 x) := bX.alloc _
    have hBs := hB.size
    generalize W.alloc (.cells #[.int .i64 (SetM.withoutN s x : Nat)] 3) = W5 at *
    have LT5 := Lib.hid (LT.out.below (hB.trans (hb5.mono hB.size)))
    have C5 : Hid (Below w.heap.size w W5) := Lib.hid (E0.trans ((hB.trans (hb5.mono hB.size)).mono (by omega)))
    have bR5 : Boxed W5 (w.heap.size + 1 + 1) 4 (.bool false) := (hb5.block _ (by omega)).trans ((hB.block _ (by omega)).trans bR)
    refine wpIn_rangeFunc_ownN (l₀ := l) (r₀ := r) rfl hr' (by omega) (gf := 127) (lb := #[.pointer (some ⟨W.heap.size, 0, none⟩)]) rfl trivial (enters_of Tryz.func127 (by kernel_rfl) rfl)
      ((each_mem _ (by omega) W.heap.size (SetM.withoutN s x : Nat) W5 (by omega) bN.cell).inRound l) Kept.trans (kept_b (by omega)) (Below.refl _ _) (fun _ => rfl)
      (fun pre' W' => (∀ z ∈ pre', beside T x z.1 = true) ∧ Below W5.heap.size W5 W')
      (fun c pre' W' => (c = .ret ∧ (∃ z ∈ pre', beside T x z.1 = false) ∧ W'.heap[w.heap.size + 1 + 1]? = some (.cells #[.bool false] 4 (0, 0))) ∧ W5.grownBy W' (some (w.heap.size + 1 + 1)))
      (OwnFrom.and (ownFrom_pure _ _) (ownFrom_below (Nat.le_refl _) (Nat.le_refl _)))
      ?own2 ⟨by simp, Below.refl _ _⟩
      (fun z a'' _ => a'' = { tmps := #[.agg c.toArray, .int .i64 s, .pointer (some ⟨w.heap.size, 0, none⟩), .pointer (some ⟨w.heap.size + 1, 0, none⟩), .pointer (some ⟨w.heap.size + 1 + 1, 0, none⟩), .pointer (some ⟨Bx, 0, none⟩), .int .i64 z.1, .int .i64 s, .func (.func 127) #[] #[.pointer (some ⟨w.heap.size + 1 + 1 + 1, 0, none⟩)], .int .i64 x, .int .i64 s, .int .i64 x, .int .i64 (SetM.withoutN s x : Nat), .func (.func 127) #[] #[.pointer (some ⟨W.heap.size, 0, none⟩)], .int .i64 z.1, undef, undef, undef, undef, undef], defers := [] })
      (fun _ _ _ _ _ _ hs _ _ => hs)
      ?assign2 ?body2 ?done2 ?stop2
    case own2 =>
      rintro c pre' W' W'' row ⟨⟨h1, h2, h5⟩, hg⟩ hgr hr
      have hlt' : w.heap.size + 1 + 1 < W'.heap.size := (Array.getElem?_eq_some_iff.1 h5).1
      exact ⟨⟨h1, h2, (hgr.block _ hlt' (fun e => by have := (hr _ e.symm).1; omega)).trans h5⟩, grown_from hg hgr (fun r e => (hr r e).1)⟩
    case assign2 =>
      rintro l2 pre' z W' K hi hK
      gi_wp2
      exact hK _ _ (KeepsFrom.refl _ _) rfl hi rfl
    case body2 =>
      rintro l2 pre' ⟨z, hz⟩ a'' W' _ _ ⟨hp2, hB2⟩ rfl hlt2
      have LTW := Lib.hid (LT5.out.below hB2)
      have BW : Hid (Below w.heap.size w W') := Lib.hid (C5.out.trans (hB2.mono C5.out.size))
      have cX' := (Boxed.cell (show Boxed W' Bx 3 (.int .i64 x) from (hB2.block _ (by have := bX5.lt; omega)).trans bX5))
      have bRW : Boxed W' (w.heap.size + 1 + 1) 4 (.bool false) := (hB2.block _ (by omega)).trans bR5
      have BRW := Lib.hid bRW
      refine wpIn_block (wpIn_seq ?_)
      refine Up.region_list (fun ⟨_, _, h⟩ => h) (by kernel_rfl) ?_
      go_wp2_with (refine Row.wpList_load_g 32 _ rfl (by first | rfl | go_simp) ⟨w.heap.size, 0, none⟩ rfl c _ LTW.out Tryz.underlying32 rfl IA.out ?_)
      refine (BS.out x z _ BW.out).mono ?_
      rintro e W6 ⟨rfl, hb6⟩
      have bR6 : Boxed W6 (w.heap.size + 1 + 1) 4 (.bool false) := (hb6.block _ bRW.lt).trans bRW
      have hc := bR6.cell
      have hf := bR6.frozen
      have H6 := Lib.hid hb6
      have HB2 := Lib.hid hB2
      clear hb6 bRW cX' hB2
      cases hbs : beside T x z with
      | true =>
        have HS := Lib.hid hbs
        clear hbs
        go_wp2_with fail
        gi_wp2
        refine ⟨keeps_below H6.out, Kept.below H6.out (by have := HB2.out.size; omega), ?_, HB2.out.trans (H6.out.mono HB2.out.size)⟩
        intro y hy
        rcases List.mem_append.1 hy with hy | hy
        · exact hp2 y hy
        · obtain rfl : y = ⟨z, hz⟩ := by simpa using hy
          exact HS.out
      | false =>
        have HS := Lib.hid hbs
        clear hbs
        go_wp2_with fail
        gi_wp2
        exact ⟨KeepsFrom.of_grownBy (grown_trans (grown_of_below H6.out) (grownBy_setCell' _ _ _)) (fun j e => by cases e; omega), ⟨rfl, ⟨⟨z, hz⟩, by simp, HS.out⟩, bR6.set (.bool false)⟩, grown_trans (grown_trans (grown_of_below (HB2.out.mono (Nat.le_refl _))) (grown_of_below H6.out)) (grownBy_setCell' _ _ _)⟩
    case done2 =>
      rintro ys W' hS ⟨hp2, hB2⟩
      have HW : Hid (Below W.heap.size W W') := Lib.hid (hb5.trans (hB2.mono hb5.size))
      have HA : Hid (besAll T s x = true) := Lib.hid (by
        unfold besAll; rw [← hS, List.all_eq_true]; intro y hy
        obtain ⟨z, hz, rfl⟩ := List.mem_map.1 hy
        exact hp2 z hz)
      clear hB2
      gi_wp2
      refine ⟨keeps_below HW.out, Kept.below HW.out (by omega), ?_, hB.trans (HW.out.mono hB.size)⟩
      intro y hy
      rcases List.mem_append.1 hy with hy | hy
      · exact hp y hy
      · obtain rfl : y = ⟨x, hx⟩ := by simpa using hy
        exact HA.out
    case stop2 =>
      rintro c pre' W' hpre ⟨⟨rfl, ⟨z, hz, hzb⟩, hR⟩, hg⟩
      have HG : Hid (W.grownBy W' (some (w.heap.size + 1 + 1))) := Lib.hid (grown_trans (grown_of_below hb5) hg)
      have HA : Hid (besAll T s x = false) := Lib.hid (by
        unfold besAll; rw [List.all_eq_false]; exact ⟨z.1, z.2, by simp [hzb]⟩)
      have HRR := Lib.hid hR
      clear hg hR
      gi_wp2
      exact ⟨KeepsFrom.of_grownBy HG.out (fun j e => by cases e; omega), ⟨rfl, ⟨⟨x, hx⟩, by simp, HA.out⟩, HRR.out⟩, grown_trans (grown_of_below (hB.mono (Nat.le_refl _))) HG.out⟩
  case done =>
    rintro D ys W hD hS ⟨hp, hB⟩ hK
    have hv : Boxed W (w.heap.size + 1 + 1) 4 (.bool false) := (hB.block _ (by omega)).trans bR
    have hc := hv.cell
    have hf := hv.frozen
    have HR : Hid (abreast T s = true) := Lib.hid (by
      rw [AR.out, ← hS, List.all_eq_true]; intro y hy
      obtain ⟨z, hz, rfl⟩ := List.mem_map.1 hy
      exact hp z hz)
    have HB : Hid (Below w.heap.size w W) := Lib.hid (E0.trans (hB.mono (by omega)))
    clear hB
    gi_wp2
    have hv2 := hv.set (.bool true)
    have hK' := (KeepsOthers.setCell W ⟨w.heap.size + 1 + 1, 0, none⟩ (.bool true)).same D _ hK rfl
    refine ⟨by simp, .inl ⟨_, _, rfl, run_takeDeferred hK', ?_⟩⟩
    have hc5 := cell_kept hv2.cell (grownBy_putObj' _ D (.deferred none)) (fun r e => by cases e; exact ⟨_, hK', rfl⟩)
    refine ⟨.bool true, ?_, by rw [HR.out], (HB.out.setCell (p := ⟨w.heap.size + 1 + 1, 0, none⟩) (by simp; omega) _).trans (belowK_b (w := w) (Nat.le_refl _) _ D _ _ (by omega) hK' rfl rfl)⟩
    simp [results, Tryz.f117, go_sem, hc5]
  case stop =>
    rintro D c pre W hD hpre ⟨⟨rfl, ⟨z, hz, hzb⟩, hR⟩, hg⟩ hK
    have HR : Hid (abreast T s = false) := Lib.hid (by rw [AR.out, List.all_eq_false]; exact ⟨z.1, z.2, by simp [hzb]⟩)
    have hv : Boxed W (w.heap.size + 1 + 1) 4 (.bool false) := hR
    have HB : Hid (Below w.heap.size w W) := Lib.hid (E0.grown hg (by omega) (fun k e => by cases e; omega))
    clear hg
    gi_wp2
    refine ⟨by simp, .inl ⟨_, _, rfl, run_takeDeferred hK, ?_⟩⟩
    have hc5 := cell_kept hv.cell (grownBy_putObj' _ D (.deferred none)) (fun r e => by cases e; exact ⟨_, hK, rfl⟩)
    refine ⟨.bool false, ?_, by rw [HR.out], HB.out.trans (belowK_b (w := w) (Nat.le_refl _) W D _ _ (by omega) hK rfl rfl)⟩
    simp [results, Tryz.f117, go_sem, hc5]
end Go.Proofs.YtjolhoilcibdfaaGreat.ChkN
/- The contract of package check's badRail. -/
namespace Go.Proofs.YtjolhoilcibdfaaGreat.ChkR
open Go.ChangeShapes Go.WideShapes Go.ChangeAt Go.RowKit
open Tab PlaceM PlanM OnS ChkM ChkA
open ChkB (laid2)
open May (ret_bool infoT infoR)
set_option linter.unusedVariables false
set_option linter.unusedSimpArgs false
set_option maxRecDepth 100000 in
set_option maxHeartbeats 8000000 in
theorem badRail_any (T : Tab) (h : Hd) (r : Rl) (w : World) (ht : IsTab w h T) :
    Calls Tryz.prog 83 #[.agg (T.cells h).toArray, .agg r.cells.toArray] w fun e w' => e = .returned (.bool (railBad T r)) ∧ Below w.heap.size w w' := by
  have hsz := (cells_ok ht).size
  have IA : Hid ((Tryz.prog.info? 32).map (·.size) = some (T.cells h).length) := Lib.hid (by rw [List.size_toArray] at hsz; rw [hsz]; exact infoT)
  have AO : Hid (∀ W, Below w.heap.size w W → Calls Tryz.prog 115 #[.agg (T.cells h).toArray, .int .i64 (or4 r)] W fun e w' => e = .returned (.bool (allOn T (or4 r))) ∧ Below W.heap.size W w') := Lib.hid (fun W hb => allOn_any T h _ W (ht.below hb))
  have CL : Hid (∀ s W, Below w.heap.size w W → Calls Tryz.prog 116 #[.agg (T.cells h).toArray, .int .i64 s] W fun e w' => e = .returned (.bool (clashC T s)) ∧ Below W.heap.size W w') := Lib.hid (fun s W hb => ChkI.clash_any T h s W (ht.below hb))
  have AB : Hid (∀ s W, Below w.heap.size w W → Calls Tryz.prog 117 #[.agg (T.cells h).toArray, .int .i64 s] W fun e w' => e = .returned (.bool (abreast T s)) ∧ Below W.heap.size W w') := Lib.hid (fun s W hb => ChkN.abreast_any T h s W (ht.below hb))
  have BT : Hid (∀ W, Calls Tryz.prog 118 #[.agg r.cells.toArray] W fun e w' => e = .returned (.bool (timesBad r)) ∧ Below W.heap.size W w') := Lib.hid (fun W => badTimes_any r W)
  obtain ⟨x, hx⟩ : ∃ x, x = railBad T r := ⟨_, rfl⟩
  rw [← hx]
  have HR : Hid (x = (!allOn T (or4 r) || (r.dwell == 0 || (r.exit == 0 || (bits .and .i64 r.dwell r.bars != 0 || (clashC T r.clear || (clashC T r.dwell || (clashC T r.exit || (!abreast T r.exit || timesBad r))))))))) := Lib.hid hx
  have LT0 := Lib.hid (Row.lies_new w (T.cells h).toArray 32)
  have hs1 : (w.alloc (.cells (T.cells h).toArray 32)).heap.size = w.heap.size + 1 := by simp
  have IR : Hid ((Tryz.prog.info? 47).map (·.size) = some r.cells.length) := Lib.hid infoR
  have hone := Rl.one r
  have hsz2 : r.cells.toArray.size = 11 := rfl
  have RC := Lib.hid (rail_cells r)
  have O4 : Hid (bits .or .i64 (bits .or .i64 (bits .or .i64 r.bars r.clear) r.dwell) r.exit = or4 r) := Lib.hid rfl
  generalize timesBad r = tb at BT HR
  obtain ⟨a1, ha1⟩ : ∃ z, allOn T (or4 r) = z := ⟨_, rfl⟩
  obtain ⟨c1, hc1⟩ : ∃ z, clashC T r.clear = z := ⟨_, rfl⟩
  obtain ⟨c2, hc2⟩ : ∃ z, clashC T r.dwell = z := ⟨_, rfl⟩
  obtain ⟨c3, hc3⟩ : ∃ z, clashC T r.exit = z := ⟨_, rfl⟩
  obtain ⟨b1, hb1⟩ : ∃ z, abreast T r.exit = z := ⟨_, rfl⟩
  have CL1 := Lib.hid (CL.out r.clear)
  have CL2 := Lib.hid (CL.out r.dwell)
  have CL3 := Lib.hid (CL.out r.exit)
  have AB1 := Lib.hid (AB.out r.exit)
  rw [ha1] at AO HR
  rw [hc1] at CL1 HR
  rw [hc2] at CL2 HR
  rw [hc3] at CL3 HR
  rw [hb1] at AB1 HR
  clear hx ht CL AB ha1 hc1 hc2 hc3 hb1
  generalize or4 r = o4 at *
  generalize r.cells = rc at *
  obtain ⟨bars, clear_, dwell, exit, delay, green, foot, hold, stay, most, limit⟩ := r
  dsimp only at *
  generalize T.cells h = c at *
  go_enter Tryz.func83, Tryz.ntmps83
  go_upto_region 1 with fail
  obtain ⟨u, hu, E1, E0, EB, b1'⟩ := laid2 w (.cells c.toArray 32) (.cells rc.toArray 47)
  rw [hu]
  have A0 := Lib.hid E0
  have A1 := Lib.hid (LT0.out.below (by rw [hs1]; exact EB))
  have A2 : Hid (u.heap[w.heap.size + 1]? = some (.cells rc.toArray 47 (0, 0))) := Lib.hid b1'
  clear hu EB LT0 b1' hs1 hsz hsz2 hone E0 E1
  obtain ⟨q0, q1, q2, q3, q4, q5, q7, q8, q9, q10⟩ := RC.out _ _ A2.out
  go_wp2_with (refine Row.wpList_load_g 32 _ rfl (by first | rfl | go_simp) ⟨w.heap.size, 0, none⟩ rfl c _ A1.out Tryz.underlying32 rfl IA.out ?_)
  (try go_wp2_with fail)
  rw [O4.out]
  refine (AO.out _ A0.out).mono ?_
  rintro e u1 ⟨rfl, hb⟩
  have A0 : Hid (Below w.heap.size w u1) := Lib.hid (A0.out.trans (hb.mono A0.out.size))
  have A2 : Hid (u1.heap[w.heap.size + 1]? = some (.cells rc.toArray 47 (0, 0))) := Lib.hid ((hb.block _ (Array.getElem?_eq_some_iff.1 A2.out).1).trans A2.out)
  have A1 := Lib.hid (A1.out.below hb)
  clear q0 q1 q2 q3 q4 q5 q7 q8 q9 q10
  clear hb
  obtain ⟨q0, q1, q2, q3, q4, q5, q7, q8, q9, q10⟩ := RC.out _ _ A2.out
  cases a1 with
  | false =>
    have HX : Hid (true = x) := Lib.hid (by rw [HR.out]; rfl)
    go_wp2
    go_ret
    exact ⟨ret_bool HX.out, A0.out⟩
  | true =>
    by_cases h1 : dwell = 0
    · have HX : Hid (true = x) := Lib.hid (by rw [HR.out]; simp [h1])
      go_wp2
      go_ret
      exact ⟨ret_bool HX.out, A0.out⟩
    by_cases h2 : exit = 0
    · have HX : Hid (true = x) := Lib.hid (by rw [HR.out]; simp [h2])
      go_wp2
      go_ret
      exact ⟨ret_bool HX.out, A0.out⟩
    by_cases h3 : bits .and .i64 dwell bars = 0
    rotate_left
    · have HX : Hid (true = x) := Lib.hid (by rw [HR.out]; simp [h3])
      go_wp2
      go_ret
      exact ⟨ret_bool HX.out, A0.out⟩
    go_wp2_with (refine Row.wpList_load_g 32 _ rfl (by first | rfl | go_simp) ⟨w.heap.size, 0, none⟩ rfl c _ A1.out Tryz.underlying32 rfl IA.out ?_)
    (try go_wp2_with fail)
    refine (CL1.out _ A0.out).mono ?_
    rintro e u2 ⟨rfl, hb⟩
    have A0 : Hid (Below w.heap.size w u2) := Lib.hid (A0.out.trans (hb.mono A0.out.size))
    have A2 : Hid (u2.heap[w.heap.size + 1]? = some (.cells rc.toArray 47 (0, 0))) := Lib.hid ((hb.block _ (Array.getElem?_eq_some_iff.1 A2.out).1).trans A2.out)
    have A1 := Lib.hid (A1.out.below hb)
    clear q0 q1 q2 q3 q4 q5 q7 q8 q9 q10
    clear hb
    obtain ⟨q0, q1, q2, q3, q4, q5, q7, q8, q9, q10⟩ := RC.out _ _ A2.out
    cases c1 with
    | true =>
      have HX : Hid (true = x) := Lib.hid (by rw [HR.out]; simp)
      go_wp2
      go_ret
      exact ⟨ret_bool HX.out, A0.out⟩
    | false =>
      go_wp2_with (refine Row.wpList_load_g 32 _ rfl (by first | rfl | go_simp) ⟨w.heap.size, 0, none⟩ rfl c _ A1.out Tryz.underlying32 rfl IA.out ?_)
      (try go_wp2_with fail)
      refine (CL2.out _ A0.out).mono ?_
      rintro e u3 ⟨rfl, hb⟩
      have A0 : Hid (Below w.heap.size w u3) := Lib.hid (A0.out.trans (hb.mono A0.out.size))
      have A2 : Hid (u3.heap[w.heap.size + 1]? = some (.cells rc.toArray 47 (0, 0))) := Lib.hid ((hb.block _ (Array.getElem?_eq_some_iff.1 A2.out).1).trans A2.out)
      have A1 := Lib.hid (A1.out.below hb)
      clear q0 q1 q2 q3 q4 q5 q7 q8 q9 q10
      clear hb
      obtain ⟨q0, q1, q2, q3, q4, q5, q7, q8, q9, q10⟩ := RC.out _ _ A2.out
      cases c2 with
      | true =>
        have HX : Hid (true = x) := Lib.hid (by rw [HR.out]; simp)
        go_wp2
        go_ret
        exact ⟨ret_bool HX.out, A0.out⟩
      | false =>
        go_wp2_with (refine Row.wpList_load_g 32 _ rfl (by first | rfl | go_simp) ⟨w.heap.size, 0, none⟩ rfl c _ A1.out Tryz.underlying32 rfl IA.out ?_)
        (try go_wp2_with fail)
        refine (CL3.out _ A0.out).mono ?_
        rintro e u4 ⟨rfl, hb⟩
        have A0 : Hid (Below w.heap.size w u4) := Lib.hid (A0.out.trans (hb.mono A0.out.size))
        have A2 : Hid (u4.heap[w.heap.size + 1]? = some (.cells rc.toArray 47 (0, 0))) := Lib.hid ((hb.block _ (Array.getElem?_eq_some_iff.1 A2.out).1).trans A2.out)
        have A1 := Lib.hid (A1.out.below hb)
        clear q0 q1 q2 q3 q4 q5 q7 q8 q9 q10
        clear hb
        obtain ⟨q0, q1, q2, q3, q4, q5, q7, q8, q9, q10⟩ := RC.out _ _ A2.out
        cases c3 with
        | true =>
          have HX : Hid (true = x) := Lib.hid (by rw [HR.out]; simp)
          go_wp2
          go_ret
          exact ⟨ret_bool HX.out, A0.out⟩
        | false =>
          go_wp2_with (refine Row.wpList_load_g 32 _ rfl (by first | rfl | go_simp) ⟨w.heap.size, 0, none⟩ rfl c _ A1.out Tryz.underlying32 rfl IA.out ?_)
          (try go_wp2_with fail)
          refine (AB1.out _ A0.out).mono ?_
          rintro e u5 ⟨rfl, hb⟩
          have A0 : Hid (Below w.heap.size w u5) := Lib.hid (A0.out.trans (hb.mono A0.out.size))
          have A2 : Hid (u5.heap[w.heap.size + 1]? = some (.cells rc.toArray 47 (0, 0))) := Lib.hid ((hb.block _ (Array.getElem?_eq_some_iff.1 A2.out).1).trans A2.out)
          have A1 := Lib.hid (A1.out.below hb)
          clear q0 q1 q2 q3 q4 q5 q7 q8 q9 q10
          clear hb
          obtain ⟨q0, q1, q2, q3, q4, q5, q7, q8, q9, q10⟩ := RC.out _ _ A2.out
          cases b1 with
          | false =>
            have HX : Hid (true = x) := Lib.hid (by rw [HR.out]; simp)
            go_wp2
            go_ret
            exact ⟨ret_bool HX.out, A0.out⟩
          | true =>
            have LR : Hid (Lies u5 ⟨w.heap.size + 1, 0, none⟩ rc) := Lib.hid (by have := Row.lies_of_block A2.out; simpa using this)
            go_wp2_with (refine Row.wpList_load_g 47 _ rfl (by first | rfl | go_simp) ⟨w.heap.size + 1, 0, none⟩ rfl rc _ LR.out Tryz.underlying47 rfl IR.out ?_)
            (try go_wp2_with fail)
            refine (BT.out _).mono ?_
            rintro e uz ⟨rfl, hb⟩
            have EZ := Lib.hid (A0.out.trans (hb.mono A0.out.size))
            clear hb
            have HX : Hid (x = tb) := Lib.hid (by rw [HR.out, beq_eq_false_iff_ne.2 h1, beq_eq_false_iff_ne.2 h2, h3]; rfl)
            go_wp2
            go_ret
            refine ⟨ret_bool ?_, EZ.out⟩
            first | exact HX.out.symm | (rw [HX.out, beq_eq_false_iff_ne.2 h1, beq_eq_false_iff_ne.2 h2]; rfl)
end Go.Proofs.YtjolhoilcibdfaaGreat.ChkR
