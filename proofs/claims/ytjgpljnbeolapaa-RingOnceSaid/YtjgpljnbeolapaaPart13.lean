/- 3 texts in one file, in build order. -/
import Derived.Test.YtjgpljnbeolapaaPart03
import Derived.Test.YtjgpljnbeolapaaPart12
import Derived.Test.YtjgpljnbeolapaaPart09
import Derived.Test.YtjgpljnbeolapaaPart02
import Derived.Deep.Cut
import Derived.Test.YtjgpljnbeolapaaPart01
import Derived.Test.YtjgpljnbeolapaaPart08
import Derived.Test.YtjgpljnbeolapaaPart07
set_option linter.unusedVariables false
set_option linter.unusedSimpArgs false
set_option linter.unusedSectionVars false
set_option maxHeartbeats 8000000
set_option maxRecDepth 100000
namespace Go.Proofs.Ytjgpljnbeolapaa
namespace Rg
open Go Go.ChangeShapes Go.WideShapes Go.ChangeAt Go.RowKit
open Tab Flat TabArg QL Ru PlanM
open ChkM (cfAt)
open Clear (phAt)
open PlaceM (where_ spots Spt)
open May (infoP)
theorem tick_any (u0 : World) (T : Tab) (hd : Hd) (r : Rg) (rs : List Ru) (cnt : List Int) (cross want : Int) (gx : Nat) (w : World) (TB : ∀ W, Below u0.heap.size u0 W → IsTab W hd T) (h8 : rs.length = 8) (hc : cnt.length = 8) (hb : ∀ x ∈ cnt, 0 ≤ x ∧ x ≤ 1000000000) (hx : 0 ≤ cross ∧ cross ≤ 1000000000) (hg : 0 ≤ r.g ∧ r.g < T.groups.length) (few : T.groups.length ≤ 1000) (hw : Blk.Bks u0 [(gx, (pC (T.cells hd) r (runsC rs) cnt cross).toArray, 57)] w) :
    Calls Try.prog 20 #[.pointer (some ⟨gx, 0, none⟩), .int .i64 want] w fun e w' => e = .returned (.tuple #[I (stepS T r rs want).st, I (stepS T r rs want).en]) ∧ Blk.Bks u0 [(gx, (pC (T.cells hd) (stepS T r rs want).r (runsC (runsS T rs (stepS T r rs want).st (stepS T r rs want).en (prsS T r rs want))) (cntS cnt (stepS T r rs want).st) (crS cross r.cr (stepS T r rs want).r.cr)).toArray, 57)] w' := by
  have h1 : (T.cells hd).length = 131 := by have := (cells_ok (TB u0 (Below.refl _ _))).size; rwa [List.size_toArray] at this
  have IA : (Try.prog.info? 32).map (·.size) = some (T.cells hd).length := by rw [h1]; exact PlanW.infoT
  obtain ⟨S, hS⟩ : ∃ S, stepS T r rs want = S := ⟨_, rfl⟩
  obtain ⟨pr, hpr⟩ : ∃ S, prsS T r rs want = S := ⟨_, rfl⟩
  have PF : Hid (∀ W, Below u0.heap.size u0 W → Calls Try.prog 49 #[.agg (T.cells hd).toArray, .agg r.cells.toArray, .agg (runsC rs).toArray, .int .i64 want] W fun e w' => e = .returned (.int .i64 pr) ∧ Below W.heap.size W w') := Lib.hid (fun W hb => by rw [← hpr]; exact pressed_any T hd r rs want W (TB W hb) h8)
  have SF : Hid (∀ W, Below u0.heap.size u0 W → Calls Try.prog 12 #[.agg (T.cells hd).toArray, .agg r.cells.toArray, .agg (runsC rs).toArray, .int .i64 want] W fun e w' => e = .returned (.tuple #[.agg S.r.cells.toArray, I S.st, I S.en]) ∧ Below W.heap.size W w') := Lib.hid (fun W hb => by rw [← hS]; exact step_any T hd r rs want W (TB W hb) h8 hg few)
  have LPH : Hid (∀ p : Nat, p < 8 → ∀ W g, Lies W ⟨g, 0, none⟩ (T.cells hd) → Lies W ⟨g, p * 13, none⟩ (phAt T p).cells) := Lib.hid (fun p hp W g hl j v hj => by
    have := hl (p * 13 + j) v (GenQ.cells_at (TB u0 (Below.refl _ _)) hp hj)
    rw [Addr.add_mid, Nat.zero_add] at this
    rwa [Addr.add_mid])
  rw [hS, hpr]
  clear hS hpr TB hg few
  obtain ⟨nf, hnf⟩ : ∃ f : Nat → Ru, f = fun p => stp (phAt T (p : Nat)) (ruAt rs (p : Nat)) (cueS S.st S.en pr (p : Nat)) := ⟨_, rfl⟩
  obtain ⟨cf, hcf⟩ : ∃ f : Nat → Int, f = fun p => cnt.getD p 0 + if SetM.has S.st (p : Nat) = true then 1 else 0 := ⟨_, rfl⟩
  have NF : Hid (∀ p : Nat, nf p = stp (phAt T p) (ruAt rs p) (cueS S.st S.en pr p)) := Lib.hid (fun p => by rw [hnf])
  have CF : Hid (∀ p : Nat, cf p = cnt.getD p 0 + if SetM.has S.st (p : Nat) = true then 1 else 0) := Lib.hid (fun p => by rw [hcf])
  have RN : Hid (runsS T rs S.st S.en pr = mix nf (fun i => ruAt rs i) 8) := Lib.hid (by rw [hnf, mix_upd _ _ zRu]; rfl)
  have CN : Hid (cntS cnt S.st = mix cf (fun i => cnt.getD i 0) 8) := Lib.hid (by rw [hcf, mix_upd _ _ 0]; rfl)
  have R0 : mix nf (fun i => ruAt rs i) 0 = rs := mix_zero nf h8 (fun i hi => ru_at h8 hi)
  have C0 : mix cf (fun i => cnt.getD i 0) 0 = cnt := mix_zero cf hc (fun i hi => by rw [List.getD_eq_getElem?_getD, List.getElem?_eq_getElem (show i < cnt.length by omega)]; rfl)
  have CB : Hid (∀ p : Nat, p < 8 → 0 ≤ cnt.getD p 0 ∧ cnt.getD p 0 ≤ 1000000000) := Lib.hid (fun p hp => by
    have hm := List.getElem_mem (show p < cnt.length by omega)
    have := hb _ hm
    rw [List.getD_eq_getElem?_getD, List.getElem?_eq_getElem (show p < cnt.length by omega)]
    exact this)
  rw [RN.out, CN.out]
  clear hnf hcf hb RN CN
  have h2 : (runsC rs).length = 96 := by rw [runs_len, h8]
  have IR : (Try.prog.info? 46).map (·.size) = some (runsC rs).length := by rw [h2]; exact infoRs
  generalize T.cells hd = tc at *
  generalize phAt T = ph at *
  have HW0 := Lib.hid hw
  clear hw
  go_enter Try.func20, Try.ntmps20
  go_upto_region 1 with fail
  have L1 := Lib.hid h1
  have L2 := Lib.hid h2
  have L3 := Lib.hid hc
  have HV := Lib.hid HW0.out.bel
  have PBW : Hid (∀ W, Below w.heap.size w W → PB W gx tc r (runsC rs) cnt cross) := Lib.hid (fun W hb => pb L1.out L2.out L3.out (HW0.out.step hb) 0 rfl)
  refine QB.region_below w.heap.size (by kernel_rfl) (by kernel_rfl) ?_
  repeat first
    | (refine wpQuiet_load rfl 32 _ rfl ⟨gx, 0, none⟩ rfl tc _ (fun w' ⟨pw, e⟩ => by rw [e]; exact (PBW.out _ pw.below).lt) Try.underlying32 rfl IA ?_
       dsimp only [Act.put]
       simp only [List.setIfInBounds_toArray, List.set_cons_zero, List.set_cons_succ])
    | (refine wpQuiet_load rfl 36 _ rfl ⟨gx, 131, none⟩ rfl r.cells _ (fun w' ⟨pw, e⟩ => by rw [e]; exact (PBW.out _ pw.below).lr) Try.underlying36 rfl infoRg ?_
       dsimp only [Act.put]
       simp only [List.setIfInBounds_toArray, List.set_cons_zero, List.set_cons_succ])
    | (refine wpQuiet_load rfl 46 _ rfl ⟨gx, 135, none⟩ rfl (runsC rs) _ (fun w' ⟨pw, e⟩ => by rw [e]; exact (PBW.out _ pw.below).ln) Try.underlying46 rfl IR ?_
       dsimp only [Act.put]
       simp only [List.setIfInBounds_toArray, List.set_cons_zero, List.set_cons_succ])
    | ((quiet_step (first | (go_at_call 49; with_reducible exact QB.call_of (Nat.le_refl _) (fun b => PF.out _ (HV.out.trans (b.mono HV.out.size)))))))
  refine wpQuiet_nil ?_
  intro _ hw'
  obtain ⟨pq, rfl⟩ := hw'
  have H1 := Lib.hid (HW0.out.by pq)
  clear HW0 PBW HV PF
  generalize pq.world = w1 at H1 ⊢
  go_upto_region 2 with fail
  have HV := Lib.hid H1.out.bel
  have PB1 : Hid (∀ W, Below w1.heap.size w1 W → PB W gx tc r (runsC rs) cnt cross) := Lib.hid (fun W hb => pb L1.out L2.out L3.out (H1.out.step hb) 0 rfl)
  (try dsimp only [Act.put]); (try simp only [List.setIfInBounds_toArray, List.set_cons_zero, List.set_cons_succ])
  go_cut [7, 8, 9] from 26 to 106 (fun t7 t8 t9 wx => ∃ gq, t7 = .pointer (some ⟨gq, 0, none⟩) ∧ t8 = I S.st ∧ t9 = I S.en ∧ Blk.Bks u0 [(gq, S.r.cells.toArray, 36), (gx, (pC tc r (runsC rs) cnt cross).toArray, 57)] wx)
  case first =>
    refine wp_region_held (S := fun w' => Below w1.heap.size w1 w') (by kernel_rfl) ?_
    have hS : Below w1.heap.size w1 { w1 with drawn := w1.drawn + 1 } := (Below.refl _ _).drew
    have HA := Lib.hid (H1.out.step hS)
    generalize ({ w1 with drawn := w1.drawn + 1 } : World) = v at hS HA ⊢
    refine Held.take (i := 0) (some 27) rfl (v := ?_) rfl (by kernel_rfl) (by kernel_rfl) (by kernel_rfl) (fun _ _ _ h => h) (Or.inl ⟨by rfl, ?_⟩) hS ?_
    rotate_left
    · intro w' hw'
      go_simp
      try with_reducible rfl
    (try dsimp only [Act.put]); (try simp only [List.setIfInBounds_toArray, List.set_cons_zero, List.set_cons_succ])
    refine Held.take (i := 1) (some 28) rfl (v := ?_) rfl (by kernel_rfl) (by kernel_rfl) (by kernel_rfl) (fun _ _ _ h => h) (Or.inl ⟨by rfl, ?_⟩) hS ?_
    rotate_left
    · intro w' hw'
      go_simp
      try with_reducible rfl
    (try dsimp only [Act.put]); (try simp only [List.setIfInBounds_toArray, List.set_cons_zero, List.set_cons_succ])
    refine Held.take (i := 2) (some 29) rfl (v := ?_) rfl (by kernel_rfl) (by kernel_rfl) (by kernel_rfl) (fun _ _ _ h => h) (Or.inl ⟨by rfl, ?_⟩) hS ?_
    rotate_left
    · intro w' hw'
      go_simp
      try with_reducible rfl
    (try dsimp only [Act.put]); (try simp only [List.setIfInBounds_toArray, List.set_cons_zero, List.set_cons_succ])
    refine Held.take_load (i := 3) (some 30) rfl 32 (.tmp 29) ⟨gx, 0, none⟩ tc _ rfl rfl (by kernel_rfl) (by kernel_rfl) (by kernel_rfl) (fun _ _ _ h => h) (by rfl) hS rfl (fun w' hw' => (PB1.out w' hw').lt) Try.underlying32 rfl IA ?_
    (try dsimp only [Act.put]); (try simp only [List.setIfInBounds_toArray, List.set_cons_zero, List.set_cons_succ])
    refine Held.take (i := 4) (some 31) rfl (v := ?_) rfl (by kernel_rfl) (by kernel_rfl) (by kernel_rfl) (fun _ _ _ h => h) (Or.inl ⟨by rfl, ?_⟩) hS ?_
    rotate_left
    · intro w' hw'
      go_simp
      try with_reducible rfl
    (try dsimp only [Act.put]); (try simp only [List.setIfInBounds_toArray, List.set_cons_zero, List.set_cons_succ])
    refine Held.take (i := 5) (some 32) rfl (v := ?_) rfl (by kernel_rfl) (by kernel_rfl) (by kernel_rfl) (fun _ _ _ h => h) (Or.inl ⟨by rfl, ?_⟩) hS ?_
    rotate_left
    · intro w' hw'
      go_simp
      try with_reducible rfl
    (try dsimp only [Act.put]); (try simp only [List.setIfInBounds_toArray, List.set_cons_zero, List.set_cons_succ])
    refine Held.take (i := 6) (some 33) rfl (v := ?_) rfl (by kernel_rfl) (by kernel_rfl) (by kernel_rfl) (fun _ _ _ h => h) (Or.inl ⟨by rfl, ?_⟩) hS ?_
    rotate_left
    · intro w' hw'
      go_simp
      try with_reducible rfl
    (try dsimp only [Act.put]); (try simp only [List.setIfInBounds_toArray, List.set_cons_zero, List.set_cons_succ])
    refine Held.take_load (i := 7) (some 34) rfl 36 (.tmp 33) ⟨gx, 131, none⟩ r.cells _ rfl rfl (by kernel_rfl) (by kernel_rfl) (by kernel_rfl) (fun _ _ _ h => h) (by rfl) hS rfl (fun w' hw' => (PB1.out w' hw').lr) Try.underlying36 rfl infoRg ?_
    (try dsimp only [Act.put]); (try simp only [List.setIfInBounds_toArray, List.set_cons_zero, List.set_cons_succ])
    refine Held.take (i := 8) (some 35) rfl (v := ?_) rfl (by kernel_rfl) (by kernel_rfl) (by kernel_rfl) (fun _ _ _ h => h) (Or.inl ⟨by rfl, ?_⟩) hS ?_
    rotate_left
    · intro w' hw'
      go_simp
      try with_reducible rfl
    (try dsimp only [Act.put]); (try simp only [List.setIfInBounds_toArray, List.set_cons_zero, List.set_cons_succ])
    refine Held.take (i := 9) (some 36) rfl (v := ?_) rfl (by kernel_rfl) (by kernel_rfl) (by kernel_rfl) (fun _ _ _ h => h) (Or.inl ⟨by rfl, ?_⟩) hS ?_
    rotate_left
    · intro w' hw'
      go_simp
      try with_reducible rfl
    (try dsimp only [Act.put]); (try simp only [List.setIfInBounds_toArray, List.set_cons_zero, List.set_cons_succ])
    refine Held.take (i := 10) (some 37) rfl (v := ?_) rfl (by kernel_rfl) (by kernel_rfl) (by kernel_rfl) (fun _ _ _ h => h) (Or.inl ⟨by rfl, ?_⟩) hS ?_
    rotate_left
    · intro w' hw'
      go_simp
      try with_reducible rfl
    (try dsimp only [Act.put]); (try simp only [List.setIfInBounds_toArray, List.set_cons_zero, List.set_cons_succ])
    refine Held.take_load (i := 11) (some 38) rfl 46 (.tmp 37) ⟨gx, 135, none⟩ (runsC rs) _ rfl rfl (by kernel_rfl) (by kernel_rfl) (by kernel_rfl) (fun _ _ _ h => h) (by rfl) hS rfl (fun w' hw' => (PB1.out w' hw').ln) Try.underlying46 rfl IR ?_
    (try dsimp only [Act.put]); (try simp only [List.setIfInBounds_toArray, List.set_cons_zero, List.set_cons_succ])
    refine Held.take (i := 12) (some 39) rfl (v := ?_) rfl (by kernel_rfl) (by kernel_rfl) (by kernel_rfl) (fun _ _ _ h => h) (Or.inl ⟨by rfl, ?_⟩) hS ?_
    rotate_left
    · intro w' hw'
      go_simp
      try with_reducible rfl
    (try dsimp only [Act.put]); (try simp only [List.setIfInBounds_toArray, List.set_cons_zero, List.set_cons_succ])
    refine wpAnyH_ready (rs := [13, 18]) (by kernel_rfl) (by simp) (AllReadyH.cons rfl (fun K hK => ?_) (AllReadyH.cons rfl (fun K hK => ?_) AllReadyH.nil))
    · go_simp
      refine (SF.out _ (HV.out.trans (hS.mono HV.out.size))).mono ?_
      rintro e vn ⟨rfl, hb⟩
      have hq := hS.trans (hb.mono hS.size)
      have HA2 := Lib.hid (HA.out.step hb)
      clear hS hb HA
      have HA := HA2
      clear HA2
      go_simp
      refine hK.out _ _ hq (fun hS => ?_)
      clear hK K hq
      rename World => v
      (try dsimp only [Act.put]); (try simp only [List.setIfInBounds_toArray, List.set_cons_zero, List.set_cons_succ])
      refine Held.take (i := 14) (some 26) rfl (v := ?_) rfl (by kernel_rfl) (by kernel_rfl) (by kernel_rfl) (fun _ _ _ h => h) (Or.inl ⟨by rfl, ?_⟩) hS ?_
      rotate_left
      · intro w' hw'
        go_simp
        try with_reducible rfl
      (try dsimp only [Act.put]); (try simp only [List.setIfInBounds_toArray, List.set_cons_zero, List.set_cons_succ])
      refine Held.take (i := 15) (some 41) rfl (v := ?_) rfl (by kernel_rfl) (by kernel_rfl) (by kernel_rfl) (fun _ _ _ h => h) (Or.inl ⟨by rfl, ?_⟩) hS ?_
      rotate_left
      · intro w' hw'
        go_simp
        try with_reducible rfl
      (try dsimp only [Act.put]); (try simp only [List.setIfInBounds_toArray, List.set_cons_zero, List.set_cons_succ])
      refine Held.take (i := 16) (some 42) rfl (v := ?_) rfl (by kernel_rfl) (by kernel_rfl) (by kernel_rfl) (fun _ _ _ h => h) (Or.inl ⟨by rfl, ?_⟩) hS ?_
      rotate_left
      · intro w' hw'
        go_simp
        try with_reducible rfl
      (try dsimp only [Act.put]); (try simp only [List.setIfInBounds_toArray, List.set_cons_zero, List.set_cons_succ])
      refine Held.take (i := 17) (some 43) rfl (v := ?_) rfl (by kernel_rfl) (by kernel_rfl) (by kernel_rfl) (fun _ _ _ h => h) (Or.inl ⟨by rfl, ?_⟩) hS ?_
      rotate_left
      · intro w' hw'
        go_simp
        try with_reducible rfl
      (try dsimp only [Act.put]); (try simp only [List.setIfInBounds_toArray, List.set_cons_zero, List.set_cons_succ])
      refine wpAnyH_ready (rs := [18]) (by kernel_rfl) (by simp) (AllReadyH.cons rfl (fun K hK => ?_) AllReadyH.nil)
      go_simp
      have ha := HA.out.alloc #[I 0, I 0, I 0, .bool false] 36
      have HGEgq := Lib.hid hS.size
      have hq := hS.alloc hS.size (.cells #[I 0, I 0, I 0, .bool false] 36)
      clear hS HA
      generalize v.heap.size = gq at ha HGEgq ⊢
      generalize World.alloc v _ = va at ha hq ⊢
      have HA := Lib.hid ha
      clear ha
      refine hK.out _ _ hq (fun hS => ?_)
      clear hK K hq
      rename World => v
      (try dsimp only [Act.put]); (try simp only [List.setIfInBounds_toArray, List.set_cons_zero, List.set_cons_succ])
      refine wpAnyH_ready (rs := [19]) (by kernel_rfl) (by simp) (AllReadyH.cons rfl (fun K hK => ?_) AllReadyH.nil)
      rw [if_pos (by rfl)]
      refine wp_store_row 36 _ _ rfl gq S.r.cells.toArray rfl rfl 36 _ (HA.out.at 0 rfl) infoRg rfl (one_rg _) ?_
      have hq := below_setRow hS (g := gq) HGEgq.out S.r.cells.toArray
      have hput := HA.out.put 0 rfl S.r.cells.toArray
      simp only [List.set_cons_succ, List.set_cons_zero] at hput
      clear hS HA
      generalize World.setRow _ gq _ = vs at hput hq ⊢
      have HA := Lib.hid hput
      clear hput
      refine hK.out _ _ hq (fun hS => ?_)
      clear hK K hq
      rename World => v
      (try simp only [List.getElem_toArray, List.getElem_cons_succ, List.getElem_cons_zero])
      (try dsimp only [Act.put]); (try simp only [List.setIfInBounds_toArray, List.set_cons_zero, List.set_cons_succ])
      refine Held.take (i := 20) (some 8) rfl (v := ?_) rfl (by kernel_rfl) (by kernel_rfl) (by kernel_rfl) (fun _ _ _ h => h) (Or.inl ⟨by rfl, ?_⟩) hS ?_
      rotate_left
      · intro w' hw'
        go_simp
        try with_reducible rfl
      (try dsimp only [Act.put]); (try simp only [List.setIfInBounds_toArray, List.set_cons_zero, List.set_cons_succ])
      refine Held.take (i := 21) (some 9) rfl (v := ?_) rfl (by kernel_rfl) (by kernel_rfl) (by kernel_rfl) (fun _ _ _ h => h) (Or.inl ⟨by rfl, ?_⟩) hS ?_
      rotate_left
      · intro w' hw'
        go_simp
        try with_reducible rfl
      (try dsimp only [Act.put]); (try simp only [List.setIfInBounds_toArray, List.set_cons_zero, List.set_cons_succ])
      refine wpAnyH_done (by kernel_rfl) ?_ _
      go_wp2_with fail
      go_meet
      case rel => exact ⟨gq, rfl, rfl, rfl, HA.out⟩
    · go_simp
      have ha := HA.out.alloc #[I 0, I 0, I 0, .bool false] 36
      have HGEgq := Lib.hid hS.size
      have hq := hS.alloc hS.size (.cells #[I 0, I 0, I 0, .bool false] 36)
      clear hS HA
      generalize v.heap.size = gq at ha HGEgq ⊢
      generalize World.alloc v _ = va at ha hq ⊢
      have HA := Lib.hid ha
      clear ha
      refine hK.out _ _ hq (fun hS => ?_)
      clear hK K hq
      rename World => v
      (try dsimp only [Act.put]); (try simp only [List.setIfInBounds_toArray, List.set_cons_zero, List.set_cons_succ])
      refine wpAnyH_ready (rs := [13]) (by kernel_rfl) (by simp) (AllReadyH.cons rfl (fun K hK => ?_) AllReadyH.nil)
      go_simp
      refine (SF.out _ (HV.out.trans (hS.mono HV.out.size))).mono ?_
      rintro e vn ⟨rfl, hb⟩
      have hq := hS.trans (hb.mono hS.size)
      have HA2 := Lib.hid (HA.out.step hb)
      clear hS hb HA
      have HA := HA2
      clear HA2
      go_simp
      refine hK.out _ _ hq (fun hS => ?_)
      clear hK K hq
      rename World => v
      (try dsimp only [Act.put]); (try simp only [List.setIfInBounds_toArray, List.set_cons_zero, List.set_cons_succ])
      refine Held.take (i := 14) (some 26) rfl (v := ?_) rfl (by kernel_rfl) (by kernel_rfl) (by kernel_rfl) (fun _ _ _ h => h) (Or.inl ⟨by rfl, ?_⟩) hS ?_
      rotate_left
      · intro w' hw'
        go_simp
        try with_reducible rfl
      (try dsimp only [Act.put]); (try simp only [List.setIfInBounds_toArray, List.set_cons_zero, List.set_cons_succ])
      refine Held.take (i := 15) (some 41) rfl (v := ?_) rfl (by kernel_rfl) (by kernel_rfl) (by kernel_rfl) (fun _ _ _ h => h) (Or.inl ⟨by rfl, ?_⟩) hS ?_
      rotate_left
      · intro w' hw'
        go_simp
        try with_reducible rfl
      (try dsimp only [Act.put]); (try simp only [List.setIfInBounds_toArray, List.set_cons_zero, List.set_cons_succ])
      refine Held.take (i := 16) (some 42) rfl (v := ?_) rfl (by kernel_rfl) (by kernel_rfl) (by kernel_rfl) (fun _ _ _ h => h) (Or.inl ⟨by rfl, ?_⟩) hS ?_
      rotate_left
      · intro w' hw'
        go_simp
        try with_reducible rfl
      (try dsimp only [Act.put]); (try simp only [List.setIfInBounds_toArray, List.set_cons_zero, List.set_cons_succ])
      refine Held.take (i := 17) (some 43) rfl (v := ?_) rfl (by kernel_rfl) (by kernel_rfl) (by kernel_rfl) (fun _ _ _ h => h) (Or.inl ⟨by rfl, ?_⟩) hS ?_
      rotate_left
      · intro w' hw'
        go_simp
        try with_reducible rfl
      (try dsimp only [Act.put]); (try simp only [List.setIfInBounds_toArray, List.set_cons_zero, List.set_cons_succ])
      refine wpAnyH_ready (rs := [19]) (by kernel_rfl) (by simp) (AllReadyH.cons rfl (fun K hK => ?_) AllReadyH.nil)
      rw [if_pos (by rfl)]
      refine wp_store_row 36 _ _ rfl gq S.r.cells.toArray rfl rfl 36 _ (HA.out.at 0 rfl) infoRg rfl (one_rg _) ?_
      have hq := below_setRow hS (g := gq) HGEgq.out S.r.cells.toArray
      have hput := HA.out.put 0 rfl S.r.cells.toArray
      simp only [List.set_cons_succ, List.set_cons_zero] at hput
      clear hS HA
      generalize World.setRow _ gq _ = vs at hput hq ⊢
      have HA := Lib.hid hput
      clear hput
      refine hK.out _ _ hq (fun hS => ?_)
      clear hK K hq
      rename World => v
      (try simp only [List.getElem_toArray, List.getElem_cons_succ, List.getElem_cons_zero])
      (try dsimp only [Act.put]); (try simp only [List.setIfInBounds_toArray, List.set_cons_zero, List.set_cons_succ])
      refine Held.take (i := 20) (some 8) rfl (v := ?_) rfl (by kernel_rfl) (by kernel_rfl) (by kernel_rfl) (fun _ _ _ h => h) (Or.inl ⟨by rfl, ?_⟩) hS ?_
      rotate_left
      · intro w' hw'
        go_simp
        try with_reducible rfl
      (try dsimp only [Act.put]); (try simp only [List.setIfInBounds_toArray, List.set_cons_zero, List.set_cons_succ])
      refine Held.take (i := 21) (some 9) rfl (v := ?_) rfl (by kernel_rfl) (by kernel_rfl) (by kernel_rfl) (fun _ _ _ h => h) (Or.inl ⟨by rfl, ?_⟩) hS ?_
      rotate_left
      · intro w' hw'
        go_simp
        try with_reducible rfl
      (try dsimp only [Act.put]); (try simp only [List.setIfInBounds_toArray, List.set_cons_zero, List.set_cons_succ])
      refine wpAnyH_done (by kernel_rfl) ?_ _
      go_wp2_with fail
      go_meet
      case rel => exact ⟨gq, rfl, rfl, rfl, HA.out⟩
  case rest =>
  obtain ⟨gq, rfl, rfl, rfl, hcut⟩ := hcut
  have H2 := Lib.hid hcut
  clear hcut H1 PB1 HV SF IR
  rename World => wx
  obtain ⟨⟨sg, s0, s1, scr⟩, st, en⟩ := S
  dsimp only at H2 NF CF ⊢
  have n3 : wx.cell? ⟨gq, 3, none⟩ = some (.bool scr) := H2.out.cell 0 3 rfl rfl
  have PB2 := Lib.hid (pb L1.out L2.out L3.out H2.out 1 rfl)
  have x3 := PB2.out.rc3
  have xc := PB2.out.cx
  have xf : wx.frozen? ⟨gx, 239, none⟩ = false := H2.out.frozen 1 239 rfl
  obtain ⟨rg, a0, a1, rcr⟩ := r
  dsimp only at x3
  have e1 : IntKind.i64.wrap (cross + 1) = cross + 1 := by rw [IntKind.wrap_i64]; omega
  clear PB2
  cases scr
  · go_upto_region 5 with fail
    clear n3 x3 xc xf e1
    have H3 := H2
    clear H2
    go_wp2_with fail
    go_loopw [10] (fun i wr => ∃ q : Nat, q ≤ 8 ∧ i = .int .i64 q ∧ Blk.Bks u0 [(gq, (Rg.cells ⟨sg, s0, s1, false⟩).toArray, 36), (gx, (pC tc ⟨rg, a0, a1, rcr⟩ (runsC (mix nf (fun i => ruAt rs i) q)) (mix cf (fun i => cnt.getD i 0) q) cross).toArray, 57)] wr) (fun i _ => 8 - (intOf i).toNat)
    case atStart => exact ⟨0, by omega, rfl, by rw [R0, C0]; exact H3.out⟩
    case round =>
      obtain ⟨q, hq, rfl, hB⟩ := hrel
      have HB := Lib.hid hB
      clear hB H3
      have M1 : Hid ((mix nf (fun i => ruAt rs i) q).length = 8) := Lib.hid (mix_len _ _ _)
      have M2 : Hid ((mix cf (fun i => cnt.getD i 0) q).length = 8) := Lib.hid (mix_len _ _ _)
      have M3 : Hid ((runsC (mix nf (fun i => ruAt rs i) q)).length = 96) := Lib.hid (by rw [runs_len, mix_len])
      by_cases hlt : q < 8
      · have hq8 : (q : Int) < 8 := by omega
        have S1 : Hid ((mix nf (fun i => ruAt rs i) q).set q (nf q) = mix nf (fun i => ruAt rs i) (q + 1)) := Lib.hid (mix_set _ _ _)
        have S2 : Hid ((mix cf (fun i => cnt.getD i 0) q).set q (cf q) = mix cf (fun i => cnt.getD i 0) (q + 1)) := Lib.hid (mix_set _ _ _)
        have S3 : Hid (cf q = cnt.getD q 0 → mix cf (fun i => cnt.getD i 0) (q + 1) = mix cf (fun i => cnt.getD i 0) q) := Lib.hid (fun h => mix_skip _ _ _ h)
        have G1 : Hid (ruAt (mix nf (fun i => ruAt rs i) q) q = ruAt rs q) := Lib.hid (by
          unfold ruAt
          rw [Int.toNat_natCast, List.getD_eq_getElem?_getD, mix_at _ _ _ hlt, if_neg (by omega)]
          rfl)
        have G2 : Hid ((mix cf (fun i => cnt.getD i 0) q)[q]? = some (cnt.getD q 0)) := Lib.hid (by rw [mix_at _ _ _ hlt, if_neg (by omega)])
        obtain ⟨cb0, cb1⟩ := CB.out q hlt
        have CFq := Lib.hid (CF.out q)
        have NFq := Lib.hid (NF.out q)
        obtain ⟨rs2, hrs2⟩ : ∃ x, mix nf (fun i => ruAt rs i) (q + 1) = x := ⟨_, rfl⟩
        obtain ⟨ct2, hct2⟩ : ∃ x, mix cf (fun i => cnt.getD i 0) (q + 1) = x := ⟨_, rfl⟩
        rw [hrs2] at S1
        rw [hct2] at S2 S3
        have HR2 := Lib.hid hrs2
        have HC2 := Lib.hid hct2
        clear hrs2 hct2
        generalize mix nf (fun i => ruAt rs i) q = rs1 at S1 G1 M1 M3 HB
        generalize mix cf (fun i => cnt.getD i 0) q = ct1 at S2 S3 G2 M2 HB
        generalize cnt.getD q 0 = k0 at *
        obtain ⟨hst, hhst⟩ : ∃ x, SetM.has st q = x := ⟨_, rfl⟩
        obtain ⟨hen, hhen⟩ : ∃ x, SetM.has en q = x := ⟨_, rfl⟩
        obtain ⟨hpr, hhpr⟩ : ∃ x, SetM.has pr q = x := ⟨_, rfl⟩
        have HA : Hid (∀ W, Calls Try.prog 14 #[.int .i64 st, .int .i64 q] W fun e w' => e = .returned (.bool hst) ∧ W = w') := Lib.hid (fun W => by rw [← hhst]; exact RefS.rhas_any _ _ W)
        have HE : Hid (∀ W, Calls Try.prog 14 #[.int .i64 en, .int .i64 q] W fun e w' => e = .returned (.bool hen) ∧ W = w') := Lib.hid (fun W => by rw [← hhen]; exact RefS.rhas_any _ _ W)
        have HP : Hid (∀ W, Calls Try.prog 14 #[.int .i64 pr, .int .i64 q] W fun e w' => e = .returned (.bool hpr) ∧ W = w') := Lib.hid (fun W => by rw [← hhpr]; exact RefS.rhas_any _ _ W)
        have CU : Hid (cueS st en pr q = ⟨hst, hen, false, false, hpr, false, false, false⟩) := Lib.hid (by unfold cueS; rw [hhst, hhen, hhpr])
        rw [CU.out] at NFq
        rw [hhst] at CFq
        clear hhst hhen hhpr CU
        go_upto_region 9 with (first | (go_at_call 14; with_reducible refine (HA.out _).mono ?_; rintro e w' ⟨rfl, rfl⟩) | (go_at_call 14; with_reducible refine (HE.out _).mono ?_; rintro e w' ⟨rfl, rfl⟩) | (go_at_call 14; with_reducible refine (HP.out _).mono ?_; rintro e w' ⟨rfl, rfl⟩) | (refine wpList_build rfl 107 [(0, .tmp 67), (1, .tmp 70), (4, .tmp 73)] rfl (Cu.cells ⟨hst, hen, false, false, hpr, false, false, false⟩).toArray _ (by rfl) (builtC _ _ _) ?_) | (refine Row.wpList_store_new rfl 107 _ _ rfl _ _ (Cu.cells ⟨hst, hen, false, false, hpr, false, false, false⟩).toArray rfl rfl rfl infoCu rfl (one_cu _) ?_))
        have hn := HB.out.alloc (Cu.cells ⟨hst, hen, false, false, hpr, false, false, false⟩).toArray 107
        generalize World.alloc wr _ = w4 at hn ⊢
        generalize wr.heap.size = gc at hn ⊢
        have H4 := Lib.hid hn
        clear hn HB HA HE HP
        have c0 : w4.cell? ⟨gc, 0, none⟩ = some (.bool hst) := H4.out.cell 0 0 rfl rfl
        have kx : w4.cell? ⟨gx, 231 + q, none⟩ = some (I k0) := (pb L1.out M3.out M2.out H4.out 2 rfl).ct q k0 G2.out
        have fx : w4.frozen? ⟨gx, 231 + q, none⟩ = false := H4.out.frozen 2 (231 + q) rfl
        have e2 : IntKind.i64.wrap (k0 + 1) = k0 + 1 := by rw [IntKind.wrap_i64]; omega
        cases hst
        · have hct : ct2 = ct1 := S3.out (by rw [CFq.out]; simp)
          subst hct
          go_upto_region 11 with fail
          clear c0 kx fx e2
          have HV := Lib.hid H4.out.bel
          have PBY := Lib.hid (pb L1.out M3.out M2.out H4.out 2 rfl)
          have LX : Hid (∀ W, Below w4.heap.size w4 W → Lies W ⟨gx, q * 13, none⟩ (ph q).cells) := Lib.hid (fun W hb => LPH.out q hlt W gx (pb L1.out M3.out M2.out (H4.out.step hb) 2 rfl).lt)
          have LY : Hid (∀ W, Below w4.heap.size w4 W → Lies W ⟨gx, 135 + q * 12, none⟩ (ruAt rs q).cells) := Lib.hid (fun W hb j v hj => by
            rw [← G1.out] at hj
            have := (pb L1.out M3.out M2.out (H4.out.step hb) 2 rfl).ln (q * 12 + j) v (runs_at M1.out hlt hj)
            rw [Addr.add_mid] at this ⊢
            rwa [Nat.add_assoc])
          have NN : Hid (nf q = stp (ph q) (ruAt rs q) ⟨false, hen, false, false, hpr, false, false, false⟩) := NFq
          have STC : Hid (∀ W, Calls Try.prog 50 #[.agg (ph q).cells.toArray, .agg (ruAt rs q).cells.toArray, .agg (Cu.cells ⟨false, hen, false, false, hpr, false, false, false⟩).toArray] W fun e w' => e = .returned (.agg (nf q).cells.toArray) ∧ Below W.heap.size W w') := Lib.hid (fun W => by rw [NN.out]; exact Ru.rstep_any _ _ _ W)
          have HRUN := Lib.hid (pC_run (tc := tc) (r := ⟨rg, a0, a1, rcr⟩) (cnt := ct2) (cross := cross) L1.out M1.out hlt (nf q))
          rw [S1.out] at HRUN
          have PL0 : Hid ((pC tc ⟨rg, a0, a1, rcr⟩ (runsC rs1) ct2 cross).toArray.size = 240) := Lib.hid (by rw [List.size_toArray]; exact pC_len L1.out M3.out M2.out)
          generalize ph q = pq0 at LX STC
          generalize ruAt rs q = uq at LY STC
          generalize nf q = nq at STC HRUN
          clear PBY NN
          refine QT.region w4.heap.size 20 (by kernel_rfl) (by kernel_rfl) ?_
          simp only [List.take_succ_cons, List.take_zero]
          repeat first
            | (refine wpQuiet_load rfl 24 _ rfl ⟨gx, q * 13, none⟩ rfl pq0.cells _ (fun w' ⟨pw, e⟩ => by rw [e]; exact LX.out _ pw.below) Try.underlying24 rfl infoP ?_
               dsimp only [Act.put]
               simp only [List.setIfInBounds_toArray, List.set_cons_zero, List.set_cons_succ])
            | (refine wpQuiet_load rfl 45 _ rfl ⟨gx, 135 + q * 12, none⟩ rfl uq.cells _ (fun w' ⟨pw, e⟩ => by rw [e]; exact LY.out _ pw.below) Try.underlying45 rfl infoRu ?_
               dsimp only [Act.put]
               simp only [List.setIfInBounds_toArray, List.set_cons_zero, List.set_cons_succ])
            | (refine wpQuiet_load rfl 107 _ rfl ⟨gc, 0, none⟩ rfl (Cu.cells ⟨false, hen, false, false, hpr, false, false, false⟩) _ (fun w' ⟨pw, e⟩ => by rw [e]; exact seg (H4.out.by pw) 0 0 rfl _ rfl) Try.underlying107 rfl infoCu ?_
               dsimp only [Act.put]
               simp only [List.setIfInBounds_toArray, List.set_cons_zero, List.set_cons_succ])
            | (quiet_step (first | (go_at_call 50; with_reducible exact QB.call_of (Nat.le_refl _) (fun b => STC.out _))))
          refine wpQuiet_nil ?_
          intro _ hw'
          obtain ⟨py, rfl⟩ := hw'
          have H6 := Lib.hid (H4.out.by py)
          generalize py.world = w6 at H6 ⊢
          simp only [List.drop_succ_cons, List.drop_zero]
          go_wp2_with (refine Ru.store_mid rfl 45 _ _ rfl gx (135 + q * 12) nq.cells.toArray rfl rfl 57 _ _ H6.out 2 rfl infoRu (by rw [PL0.out]; show 135 + q * 12 + 12 ≤ 240; omega) (one_ru _) HRUN.out ?_)
          have hput := H6.out.put 2 rfl (pC tc ⟨rg, a0, a1, rcr⟩ (runsC rs2) ct2 cross).toArray
          simp only [List.set_cons_succ, List.set_cons_zero] at hput
          generalize World.setRow w6 gx _ = w7 at hput ⊢
          have H7 := Lib.hid hput
          clear hput H6 H4 LX LY STC HRUN
          (try go_wp2)
          go_roundw
          case rel => exact ⟨q + 1, by omega, by go_num, by rw [HR2.out, HC2.out]; exact H7.out.drop⟩
          case measure => simp [intOf]; omega
        · have hct : ct1.set q (k0 + 1) = ct2 := by rw [← S2.out, CFq.out]; simp
          go_upto_region 10 with fail
          go_region
          have hput := (H4.out.set 2 (231 + q) rfl (I (k0 + 1))).drew
          rw [pC_cnt L1.out M3.out M2.out hlt, hct] at hput
          simp only [List.set_cons_succ, List.set_cons_zero] at hput
          generalize World.drew (World.setCell w4 _ _) = w5 at hput ⊢
          have H5 := Lib.hid hput
          have M22 : Hid (ct2.length = 8) := Lib.hid (by rw [← hct, List.length_set]; exact M2.out)
          clear hput kx fx H4 hct c0 e2
          go_upto_region 11 with fail
          have HV := Lib.hid H5.out.bel
          have PBY := Lib.hid (pb L1.out M3.out M22.out H5.out 2 rfl)
          have LX : Hid (∀ W, Below w5.heap.size w5 W → Lies W ⟨gx, q * 13, none⟩ (ph q).cells) := Lib.hid (fun W hb => LPH.out q hlt W gx (pb L1.out M3.out M22.out (H5.out.step hb) 2 rfl).lt)
          have LY : Hid (∀ W, Below w5.heap.size w5 W → Lies W ⟨gx, 135 + q * 12, none⟩ (ruAt rs q).cells) := Lib.hid (fun W hb j v hj => by
            rw [← G1.out] at hj
            have := (pb L1.out M3.out M22.out (H5.out.step hb) 2 rfl).ln (q * 12 + j) v (runs_at M1.out hlt hj)
            rw [Addr.add_mid] at this ⊢
            rwa [Nat.add_assoc])
          have NN : Hid (nf q = stp (ph q) (ruAt rs q) ⟨true, hen, false, false, hpr, false, false, false⟩) := NFq
          have STC : Hid (∀ W, Calls Try.prog 50 #[.agg (ph q).cells.toArray, .agg (ruAt rs q).cells.toArray, .agg (Cu.cells ⟨true, hen, false, false, hpr, false, false, false⟩).toArray] W fun e w' => e = .returned (.agg (nf q).cells.toArray) ∧ Below W.heap.size W w') := Lib.hid (fun W => by rw [NN.out]; exact Ru.rstep_any _ _ _ W)
          have HRUN := Lib.hid (pC_run (tc := tc) (r := ⟨rg, a0, a1, rcr⟩) (cnt := ct2) (cross := cross) L1.out M1.out hlt (nf q))
          rw [S1.out] at HRUN
          have PL0 : Hid ((pC tc ⟨rg, a0, a1, rcr⟩ (runsC rs1) ct2 cross).toArray.size = 240) := Lib.hid (by rw [List.size_toArray]; exact pC_len L1.out M3.out M22.out)
          generalize ph q = pq0 at LX STC
          generalize ruAt rs q = uq at LY STC
          generalize nf q = nq at STC HRUN
          clear PBY NN
          refine QT.region w5.heap.size 20 (by kernel_rfl) (by kernel_rfl) ?_
          simp only [List.take_succ_cons, List.take_zero]
          repeat first
            | (refine wpQuiet_load rfl 24 _ rfl ⟨gx, q * 13, none⟩ rfl pq0.cells _ (fun w' ⟨pw, e⟩ => by rw [e]; exact LX.out _ pw.below) Try.underlying24 rfl infoP ?_
               dsimp only [Act.put]
               simp only [List.setIfInBounds_toArray, List.set_cons_zero, List.set_cons_succ])
            | (refine wpQuiet_load rfl 45 _ rfl ⟨gx, 135 + q * 12, none⟩ rfl uq.cells _ (fun w' ⟨pw, e⟩ => by rw [e]; exact LY.out _ pw.below) Try.underlying45 rfl infoRu ?_
               dsimp only [Act.put]
               simp only [List.setIfInBounds_toArray, List.set_cons_zero, List.set_cons_succ])
            | (refine wpQuiet_load rfl 107 _ rfl ⟨gc, 0, none⟩ rfl (Cu.cells ⟨true, hen, false, false, hpr, false, false, false⟩) _ (fun w' ⟨pw, e⟩ => by rw [e]; exact seg (H5.out.by pw) 0 0 rfl _ rfl) Try.underlying107 rfl infoCu ?_
               dsimp only [Act.put]
               simp only [List.setIfInBounds_toArray, List.set_cons_zero, List.set_cons_succ])
            | (quiet_step (first | (go_at_call 50; with_reducible exact QB.call_of (Nat.le_refl _) (fun b => STC.out _))))
          refine wpQuiet_nil ?_
          intro _ hw'
          obtain ⟨py, rfl⟩ := hw'
          have H6 := Lib.hid (H5.out.by py)
          generalize py.world = w6 at H6 ⊢
          simp only [List.drop_succ_cons, List.drop_zero]
          go_wp2_with (refine Ru.store_mid rfl 45 _ _ rfl gx (135 + q * 12) nq.cells.toArray rfl rfl 57 _ _ H6.out 2 rfl infoRu (by rw [PL0.out]; show 135 + q * 12 + 12 ≤ 240; omega) (one_ru _) HRUN.out ?_)
          have hput := H6.out.put 2 rfl (pC tc ⟨rg, a0, a1, rcr⟩ (runsC rs2) ct2 cross).toArray
          simp only [List.set_cons_succ, List.set_cons_zero] at hput
          generalize World.setRow w6 gx _ = w7 at hput ⊢
          have H7 := Lib.hid hput
          clear hput H6 H5 LX LY STC HRUN
          (try go_wp2)
          go_roundw
          case rel => exact ⟨q + 1, by omega, by go_num, by rw [HR2.out, HC2.out]; exact H7.out.drop⟩
          case measure => simp [intOf]; omega
      · obtain rfl : q = 8 := by omega
        have M4 := pC_put L1.out M3.out M2.out (r := ⟨rg, a0, a1, rcr⟩) (cross := cross) ⟨sg, s0, s1, false⟩
        obtain ⟨rs1, hrs1⟩ : ∃ x, mix nf (fun i => ruAt rs i) 8 = x := ⟨_, rfl⟩
        obtain ⟨ct1, hct1⟩ : ∃ x, mix cf (fun i => cnt.getD i 0) 8 = x := ⟨_, rfl⟩
        rw [hrs1, hct1] at HB M4
        rw [hrs1] at M1 M3
        rw [hct1] at M2
        have HR8 := Lib.hid hrs1
        have HC8 := Lib.hid hct1
        clear hrs1 hct1
        have HM4 := Lib.hid M4
        clear M4
        have PL4 : Hid ((pC tc ⟨rg, a0, a1, rcr⟩ (runsC rs1) ct1 cross).toArray.size = 240) := Lib.hid (by rw [List.size_toArray]; exact pC_len L1.out M3.out M2.out)
        go_upto_region 13 with (first | (refine Row.wpList_load_g 36 _ rfl (by first | rfl | (go_simp; done) | fail) ⟨gq, 0, none⟩ rfl (Rg.cells ⟨sg, s0, s1, false⟩) _ (seg HB.out 0 0 rfl _ rfl) Try.underlying36 rfl infoRg ?_) | (refine Ru.store_mid rfl 36 _ _ rfl gx 131 (Rg.cells ⟨sg, s0, s1, false⟩).toArray rfl rfl 57 _ _ HB.out 1 rfl infoRg (by rw [PL4.out]; show 131 + 4 ≤ 240; omega) (one_rg _) HM4.out ?_))
        have hput := HB.out.put 1 rfl (pC tc ⟨sg, s0, s1, false⟩ (runsC rs1) ct1 cross).toArray
        simp only [List.set_cons_succ, List.set_cons_zero] at hput
        generalize World.setRow wr gx _ = w9 at hput ⊢
        have H9 := Lib.hid hput
        clear hput HB HM4 PL4
        go_wp2
        go_ret2
        exact ⟨rfl, (show Blk.Bks u0 [(gx, (pC tc ⟨sg, s0, s1, false⟩ (runsC (mix nf (fun i => ruAt rs i) 8)) (mix cf (fun i => cnt.getD i 0) 8) (crS cross rcr false)).toArray, 57)] w9 from by rw [HR8.out, HC8.out, show crS cross rcr false = cross from rfl]; exact H9.out.drop)⟩
  cases rcr
  rotate_left
  · go_upto_region 5 with fail
    clear n3 x3 xc xf e1
    have H3 := H2
    clear H2
    go_wp2_with fail
    go_loopw [10] (fun i wr => ∃ q : Nat, q ≤ 8 ∧ i = .int .i64 q ∧ Blk.Bks u0 [(gq, (Rg.cells ⟨sg, s0, s1, true⟩).toArray, 36), (gx, (pC tc ⟨rg, a0, a1, true⟩ (runsC (mix nf (fun i => ruAt rs i) q)) (mix cf (fun i => cnt.getD i 0) q) cross).toArray, 57)] wr) (fun i _ => 8 - (intOf i).toNat)
    case atStart => exact ⟨0, by omega, rfl, by rw [R0, C0]; exact H3.out⟩
    case round =>
      obtain ⟨q, hq, rfl, hB⟩ := hrel
      have HB := Lib.hid hB
      clear hB H3
      have M1 : Hid ((mix nf (fun i => ruAt rs i) q).length = 8) := Lib.hid (mix_len _ _ _)
      have M2 : Hid ((mix cf (fun i => cnt.getD i 0) q).length = 8) := Lib.hid (mix_len _ _ _)
      have M3 : Hid ((runsC (mix nf (fun i => ruAt rs i) q)).length = 96) := Lib.hid (by rw [runs_len, mix_len])
      by_cases hlt : q < 8
      · have hq8 : (q : Int) < 8 := by omega
        have S1 : Hid ((mix nf (fun i => ruAt rs i) q).set q (nf q) = mix nf (fun i => ruAt rs i) (q + 1)) := Lib.hid (mix_set _ _ _)
        have S2 : Hid ((mix cf (fun i => cnt.getD i 0) q).set q (cf q) = mix cf (fun i => cnt.getD i 0) (q + 1)) := Lib.hid (mix_set _ _ _)
        have S3 : Hid (cf q = cnt.getD q 0 → mix cf (fun i => cnt.getD i 0) (q + 1) = mix cf (fun i => cnt.getD i 0) q) := Lib.hid (fun h => mix_skip _ _ _ h)
        have G1 : Hid (ruAt (mix nf (fun i => ruAt rs i) q) q = ruAt rs q) := Lib.hid (by
          unfold ruAt
          rw [Int.toNat_natCast, List.getD_eq_getElem?_getD, mix_at _ _ _ hlt, if_neg (by omega)]
          rfl)
        have G2 : Hid ((mix cf (fun i => cnt.getD i 0) q)[q]? = some (cnt.getD q 0)) := Lib.hid (by rw [mix_at _ _ _ hlt, if_neg (by omega)])
        obtain ⟨cb0, cb1⟩ := CB.out q hlt
        have CFq := Lib.hid (CF.out q)
        have NFq := Lib.hid (NF.out q)
        obtain ⟨rs2, hrs2⟩ : ∃ x, mix nf (fun i => ruAt rs i) (q + 1) = x := ⟨_, rfl⟩
        obtain ⟨ct2, hct2⟩ : ∃ x, mix cf (fun i => cnt.getD i 0) (q + 1) = x := ⟨_, rfl⟩
        rw [hrs2] at S1
        rw [hct2] at S2 S3
        have HR2 := Lib.hid hrs2
        have HC2 := Lib.hid hct2
        clear hrs2 hct2
        generalize mix nf (fun i => ruAt rs i) q = rs1 at S1 G1 M1 M3 HB
        generalize mix cf (fun i => cnt.getD i 0) q = ct1 at S2 S3 G2 M2 HB
        generalize cnt.getD q 0 = k0 at *
        obtain ⟨hst, hhst⟩ : ∃ x, SetM.has st q = x := ⟨_, rfl⟩
        obtain ⟨hen, hhen⟩ : ∃ x, SetM.has en q = x := ⟨_, rfl⟩
        obtain ⟨hpr, hhpr⟩ : ∃ x, SetM.has pr q = x := ⟨_, rfl⟩
        have HA : Hid (∀ W, Calls Try.prog 14 #[.int .i64 st, .int .i64 q] W fun e w' => e = .returned (.bool hst) ∧ W = w') := Lib.hid (fun W => by rw [← hhst]; exact RefS.rhas_any _ _ W)
        have HE : Hid (∀ W, Calls Try.prog 14 #[.int .i64 en, .int .i64 q] W fun e w' => e = .returned (.bool hen) ∧ W = w') := Lib.hid (fun W => by rw [← hhen]; exact RefS.rhas_any _ _ W)
        have HP : Hid (∀ W, Calls Try.prog 14 #[.int .i64 pr, .int .i64 q] W fun e w' => e = .returned (.bool hpr) ∧ W = w') := Lib.hid (fun W => by rw [← hhpr]; exact RefS.rhas_any _ _ W)
        have CU : Hid (cueS st en pr q = ⟨hst, hen, false, false, hpr, false, false, false⟩) := Lib.hid (by unfold cueS; rw [hhst, hhen, hhpr])
        rw [CU.out] at NFq
        rw [hhst] at CFq
        clear hhst hhen hhpr CU
        go_upto_region 9 with (first | (go_at_call 14; with_reducible refine (HA.out _).mono ?_; rintro e w' ⟨rfl, rfl⟩) | (go_at_call 14; with_reducible refine (HE.out _).mono ?_; rintro e w' ⟨rfl, rfl⟩) | (go_at_call 14; with_reducible refine (HP.out _).mono ?_; rintro e w' ⟨rfl, rfl⟩) | (refine wpList_build rfl 107 [(0, .tmp 67), (1, .tmp 70), (4, .tmp 73)] rfl (Cu.cells ⟨hst, hen, false, false, hpr, false, false, false⟩).toArray _ (by rfl) (builtC _ _ _) ?_) | (refine Row.wpList_store_new rfl 107 _ _ rfl _ _ (Cu.cells ⟨hst, hen, false, false, hpr, false, false, false⟩).toArray rfl rfl rfl infoCu rfl (one_cu _) ?_))
        have hn := HB.out.alloc (Cu.cells ⟨hst, hen, false, false, hpr, false, false, false⟩).toArray 107
        generalize World.alloc wr _ = w4 at hn ⊢
        generalize wr.heap.size = gc at hn ⊢
        have H4 := Lib.hid hn
        clear hn HB HA HE HP
        have c0 : w4.cell? ⟨gc, 0, none⟩ = some (.bool hst) := H4.out.cell 0 0 rfl rfl
        have kx : w4.cell? ⟨gx, 231 + q, none⟩ = some (I k0) := (pb L1.out M3.out M2.out H4.out 2 rfl).ct q k0 G2.out
        have fx : w4.frozen? ⟨gx, 231 + q, none⟩ = false := H4.out.frozen 2 (231 + q) rfl
        have e2 : IntKind.i64.wrap (k0 + 1) = k0 + 1 := by rw [IntKind.wrap_i64]; omega
        cases hst
        · have hct : ct2 = ct1 := S3.out (by rw [CFq.out]; simp)
          subst hct
          go_upto_region 11 with fail
          clear c0 kx fx e2
          have HV := Lib.hid H4.out.bel
          have PBY := Lib.hid (pb L1.out M3.out M2.out H4.out 2 rfl)
          have LX : Hid (∀ W, Below w4.heap.size w4 W → Lies W ⟨gx, q * 13, none⟩ (ph q).cells) := Lib.hid (fun W hb => LPH.out q hlt W gx (pb L1.out M3.out M2.out (H4.out.step hb) 2 rfl).lt)
          have LY : Hid (∀ W, Below w4.heap.size w4 W → Lies W ⟨gx, 135 + q * 12, none⟩ (ruAt rs q).cells) := Lib.hid (fun W hb j v hj => by
            rw [← G1.out] at hj
            have := (pb L1.out M3.out M2.out (H4.out.step hb) 2 rfl).ln (q * 12 + j) v (runs_at M1.out hlt hj)
            rw [Addr.add_mid] at this ⊢
            rwa [Nat.add_assoc])
          have NN : Hid (nf q = stp (ph q) (ruAt rs q) ⟨false, hen, false, false, hpr, false, false, false⟩) := NFq
          have STC : Hid (∀ W, Calls Try.prog 50 #[.agg (ph q).cells.toArray, .agg (ruAt rs q).cells.toArray, .agg (Cu.cells ⟨false, hen, false, false, hpr, false, false, false⟩).toArray] W fun e w' => e = .returned (.agg (nf q).cells.toArray) ∧ Below W.heap.size W w') := Lib.hid (fun W => by rw [NN.out]; exact Ru.rstep_any _ _ _ W)
          have HRUN := Lib.hid (pC_run (tc := tc) (r := ⟨rg, a0, a1, true⟩) (cnt := ct2) (cross := cross) L1.out M1.out hlt (nf q))
          rw [S1.out] at HRUN
          have PL0 : Hid ((pC tc ⟨rg, a0, a1, true⟩ (runsC rs1) ct2 cross).toArray.size = 240) := Lib.hid (by rw [List.size_toArray]; exact pC_len L1.out M3.out M2.out)
          generalize ph q = pq0 at LX STC
          generalize ruAt rs q = uq at LY STC
          generalize nf q = nq at STC HRUN
          clear PBY NN
          refine QT.region w4.heap.size 20 (by kernel_rfl) (by kernel_rfl) ?_
          simp only [List.take_succ_cons, List.take_zero]
          repeat first
            | (refine wpQuiet_load rfl 24 _ rfl ⟨gx, q * 13, none⟩ rfl pq0.cells _ (fun w' ⟨pw, e⟩ => by rw [e]; exact LX.out _ pw.below) Try.underlying24 rfl infoP ?_
               dsimp only [Act.put]
               simp only [List.setIfInBounds_toArray, List.set_cons_zero, List.set_cons_succ])
            | (refine wpQuiet_load rfl 45 _ rfl ⟨gx, 135 + q * 12, none⟩ rfl uq.cells _ (fun w' ⟨pw, e⟩ => by rw [e]; exact LY.out _ pw.below) Try.underlying45 rfl infoRu ?_
               dsimp only [Act.put]
               simp only [List.setIfInBounds_toArray, List.set_cons_zero, List.set_cons_succ])
            | (refine wpQuiet_load rfl 107 _ rfl ⟨gc, 0, none⟩ rfl (Cu.cells ⟨false, hen, false, false, hpr, false, false, false⟩) _ (fun w' ⟨pw, e⟩ => by rw [e]; exact seg (H4.out.by pw) 0 0 rfl _ rfl) Try.underlying107 rfl infoCu ?_
               dsimp only [Act.put]
               simp only [List.setIfInBounds_toArray, List.set_cons_zero, List.set_cons_succ])
            | (quiet_step (first | (go_at_call 50; with_reducible exact QB.call_of (Nat.le_refl _) (fun b => STC.out _))))
          refine wpQuiet_nil ?_
          intro _ hw'
          obtain ⟨py, rfl⟩ := hw'
          have H6 := Lib.hid (H4.out.by py)
          generalize py.world = w6 at H6 ⊢
          simp only [List.drop_succ_cons, List.drop_zero]
          go_wp2_with (refine Ru.store_mid rfl 45 _ _ rfl gx (135 + q * 12) nq.cells.toArray rfl rfl 57 _ _ H6.out 2 rfl infoRu (by rw [PL0.out]; show 135 + q * 12 + 12 ≤ 240; omega) (one_ru _) HRUN.out ?_)
          have hput := H6.out.put 2 rfl (pC tc ⟨rg, a0, a1, true⟩ (runsC rs2) ct2 cross).toArray
          simp only [List.set_cons_succ, List.set_cons_zero] at hput
          generalize World.setRow w6 gx _ = w7 at hput ⊢
          have H7 := Lib.hid hput
          clear hput H6 H4 LX LY STC HRUN
          (try go_wp2)
          go_roundw
          case rel => exact ⟨q + 1, by omega, by go_num, by rw [HR2.out, HC2.out]; exact H7.out.drop⟩
          case measure => simp [intOf]; omega
        · have hct : ct1.set q (k0 + 1) = ct2 := by rw [← S2.out, CFq.out]; simp
          go_upto_region 10 with fail
          go_region
          have hput := (H4.out.set 2 (231 + q) rfl (I (k0 + 1))).drew
          rw [pC_cnt L1.out M3.out M2.out hlt, hct] at hput
          simp only [List.set_cons_succ, List.set_cons_zero] at hput
          generalize World.drew (World.setCell w4 _ _) = w5 at hput ⊢
          have H5 := Lib.hid hput
          have M22 : Hid (ct2.length = 8) := Lib.hid (by rw [← hct, List.length_set]; exact M2.out)
          clear hput kx fx H4 hct c0 e2
          go_upto_region 11 with fail
          have HV := Lib.hid H5.out.bel
          have PBY := Lib.hid (pb L1.out M3.out M22.out H5.out 2 rfl)
          have LX : Hid (∀ W, Below w5.heap.size w5 W → Lies W ⟨gx, q * 13, none⟩ (ph q).cells) := Lib.hid (fun W hb => LPH.out q hlt W gx (pb L1.out M3.out M22.out (H5.out.step hb) 2 rfl).lt)
          have LY : Hid (∀ W, Below w5.heap.size w5 W → Lies W ⟨gx, 135 + q * 12, none⟩ (ruAt rs q).cells) := Lib.hid (fun W hb j v hj => by
            rw [← G1.out] at hj
            have := (pb L1.out M3.out M22.out (H5.out.step hb) 2 rfl).ln (q * 12 + j) v (runs_at M1.out hlt hj)
            rw [Addr.add_mid] at this ⊢
            rwa [Nat.add_assoc])
          have NN : Hid (nf q = stp (ph q) (ruAt rs q) ⟨true, hen, false, false, hpr, false, false, false⟩) := NFq
          have STC : Hid (∀ W, Calls Try.prog 50 #[.agg (ph q).cells.toArray, .agg (ruAt rs q).cells.toArray, .agg (Cu.cells ⟨true, hen, false, false, hpr, false, false, false⟩).toArray] W fun e w' => e = .returned (.agg (nf q).cells.toArray) ∧ Below W.heap.size W w') := Lib.hid (fun W => by rw [NN.out]; exact Ru.rstep_any _ _ _ W)
          have HRUN := Lib.hid (pC_run (tc := tc) (r := ⟨rg, a0, a1, true⟩) (cnt := ct2) (cross := cross) L1.out M1.out hlt (nf q))
          rw [S1.out] at HRUN
          have PL0 : Hid ((pC tc ⟨rg, a0, a1, true⟩ (runsC rs1) ct2 cross).toArray.size = 240) := Lib.hid (by rw [List.size_toArray]; exact pC_len L1.out M3.out M22.out)
          generalize ph q = pq0 at LX STC
          generalize ruAt rs q = uq at LY STC
          generalize nf q = nq at STC HRUN
          clear PBY NN
          refine QT.region w5.heap.size 20 (by kernel_rfl) (by kernel_rfl) ?_
          simp only [List.take_succ_cons, List.take_zero]
          repeat first
            | (refine wpQuiet_load rfl 24 _ rfl ⟨gx, q * 13, none⟩ rfl pq0.cells _ (fun w' ⟨pw, e⟩ => by rw [e]; exact LX.out _ pw.below) Try.underlying24 rfl infoP ?_
               dsimp only [Act.put]
               simp only [List.setIfInBounds_toArray, List.set_cons_zero, List.set_cons_succ])
            | (refine wpQuiet_load rfl 45 _ rfl ⟨gx, 135 + q * 12, none⟩ rfl uq.cells _ (fun w' ⟨pw, e⟩ => by rw [e]; exact LY.out _ pw.below) Try.underlying45 rfl infoRu ?_
               dsimp only [Act.put]
               simp only [List.setIfInBounds_toArray, List.set_cons_zero, List.set_cons_succ])
            | (refine wpQuiet_load rfl 107 _ rfl ⟨gc, 0, none⟩ rfl (Cu.cells ⟨true, hen, false, false, hpr, false, false, false⟩) _ (fun w' ⟨pw, e⟩ => by rw [e]; exact seg (H5.out.by pw) 0 0 rfl _ rfl) Try.underlying107 rfl infoCu ?_
               dsimp only [Act.put]
               simp only [List.setIfInBounds_toArray, List.set_cons_zero, List.set_cons_succ])
            | (quiet_step (first | (go_at_call 50; with_reducible exact QB.call_of (Nat.le_refl _) (fun b => STC.out _))))
          refine wpQuiet_nil ?_
          intro _ hw'
          obtain ⟨py, rfl⟩ := hw'
          have H6 := Lib.hid (H5.out.by py)
          generalize py.world = w6 at H6 ⊢
          simp only [List.drop_succ_cons, List.drop_zero]
          go_wp2_with (refine Ru.store_mid rfl 45 _ _ rfl gx (135 + q * 12) nq.cells.toArray rfl rfl 57 _ _ H6.out 2 rfl infoRu (by rw [PL0.out]; show 135 + q * 12 + 12 ≤ 240; omega) (one_ru _) HRUN.out ?_)
          have hput := H6.out.put 2 rfl (pC tc ⟨rg, a0, a1, true⟩ (runsC rs2) ct2 cross).toArray
          simp only [List.set_cons_succ, List.set_cons_zero] at hput
          generalize World.setRow w6 gx _ = w7 at hput ⊢
          have H7 := Lib.hid hput
          clear hput H6 H5 LX LY STC HRUN
          (try go_wp2)
          go_roundw
          case rel => exact ⟨q + 1, by omega, by go_num, by rw [HR2.out, HC2.out]; exact H7.out.drop⟩
          case measure => simp [intOf]; omega
      · obtain rfl : q = 8 := by omega
        have M4 := pC_put L1.out M3.out M2.out (r := ⟨rg, a0, a1, true⟩) (cross := cross) ⟨sg, s0, s1, true⟩
        obtain ⟨rs1, hrs1⟩ : ∃ x, mix nf (fun i => ruAt rs i) 8 = x := ⟨_, rfl⟩
        obtain ⟨ct1, hct1⟩ : ∃ x, mix cf (fun i => cnt.getD i 0) 8 = x := ⟨_, rfl⟩
        rw [hrs1, hct1] at HB M4
        rw [hrs1] at M1 M3
        rw [hct1] at M2
        have HR8 := Lib.hid hrs1
        have HC8 := Lib.hid hct1
        clear hrs1 hct1
        have HM4 := Lib.hid M4
        clear M4
        have PL4 : Hid ((pC tc ⟨rg, a0, a1, true⟩ (runsC rs1) ct1 cross).toArray.size = 240) := Lib.hid (by rw [List.size_toArray]; exact pC_len L1.out M3.out M2.out)
        go_upto_region 13 with (first | (refine Row.wpList_load_g 36 _ rfl (by first | rfl | (go_simp; done) | fail) ⟨gq, 0, none⟩ rfl (Rg.cells ⟨sg, s0, s1, true⟩) _ (seg HB.out 0 0 rfl _ rfl) Try.underlying36 rfl infoRg ?_) | (refine Ru.store_mid rfl 36 _ _ rfl gx 131 (Rg.cells ⟨sg, s0, s1, true⟩).toArray rfl rfl 57 _ _ HB.out 1 rfl infoRg (by rw [PL4.out]; show 131 + 4 ≤ 240; omega) (one_rg _) HM4.out ?_))
        have hput := HB.out.put 1 rfl (pC tc ⟨sg, s0, s1, true⟩ (runsC rs1) ct1 cross).toArray
        simp only [List.set_cons_succ, List.set_cons_zero] at hput
        generalize World.setRow wr gx _ = w9 at hput ⊢
        have H9 := Lib.hid hput
        clear hput HB HM4 PL4
        go_wp2
        go_ret2
        exact ⟨rfl, (show Blk.Bks u0 [(gx, (pC tc ⟨sg, s0, s1, true⟩ (runsC (mix nf (fun i => ruAt rs i) 8)) (mix cf (fun i => cnt.getD i 0) 8) (crS cross true true)).toArray, 57)] w9 from by rw [HR8.out, HC8.out, show crS cross true true = cross from rfl]; exact H9.out.drop)⟩
  go_upto_region 5 with fail
  have hput := H2.out.set 1 239 rfl (I (cross + 1))
  rw [pC_cross L1.out L2.out L3.out] at hput
  simp only [List.set_cons_succ, List.set_cons_zero] at hput
  generalize World.setCell wx _ _ = wy at hput ⊢
  have H3 := Lib.hid hput
  clear hput n3 x3 xc xf e1 H2
  go_wp2_with fail
  go_loopw [10] (fun i wr => ∃ q : Nat, q ≤ 8 ∧ i = .int .i64 q ∧ Blk.Bks u0 [(gq, (Rg.cells ⟨sg, s0, s1, true⟩).toArray, 36), (gx, (pC tc ⟨rg, a0, a1, false⟩ (runsC (mix nf (fun i => ruAt rs i) q)) (mix cf (fun i => cnt.getD i 0) q) (cross + 1)).toArray, 57)] wr) (fun i _ => 8 - (intOf i).toNat)
  case atStart => exact ⟨0, by omega, rfl, by rw [R0, C0]; exact H3.out⟩
  case round =>
    obtain ⟨q, hq, rfl, hB⟩ := hrel
    have HB := Lib.hid hB
    clear hB H3
    have M1 : Hid ((mix nf (fun i => ruAt rs i) q).length = 8) := Lib.hid (mix_len _ _ _)
    have M2 : Hid ((mix cf (fun i => cnt.getD i 0) q).length = 8) := Lib.hid (mix_len _ _ _)
    have M3 : Hid ((runsC (mix nf (fun i => ruAt rs i) q)).length = 96) := Lib.hid (by rw [runs_len, mix_len])
    by_cases hlt : q < 8
    · have hq8 : (q : Int) < 8 := by omega
      have S1 : Hid ((mix nf (fun i => ruAt rs i) q).set q (nf q) = mix nf (fun i => ruAt rs i) (q + 1)) := Lib.hid (mix_set _ _ _)
      have S2 : Hid ((mix cf (fun i => cnt.getD i 0) q).set q (cf q) = mix cf (fun i => cnt.getD i 0) (q + 1)) := Lib.hid (mix_set _ _ _)
      have S3 : Hid (cf q = cnt.getD q 0 → mix cf (fun i => cnt.getD i 0) (q + 1) = mix cf (fun i => cnt.getD i 0) q) := Lib.hid (fun h => mix_skip _ _ _ h)
      have G1 : Hid (ruAt (mix nf (fun i => ruAt rs i) q) q = ruAt rs q) := Lib.hid (by
        unfold ruAt
        rw [Int.toNat_natCast, List.getD_eq_getElem?_getD, mix_at _ _ _ hlt, if_neg (by omega)]
        rfl)
      have G2 : Hid ((mix cf (fun i => cnt.getD i 0) q)[q]? = some (cnt.getD q 0)) := Lib.hid (by rw [mix_at _ _ _ hlt, if_neg (by omega)])
      obtain ⟨cb0, cb1⟩ := CB.out q hlt
      have CFq := Lib.hid (CF.out q)
      have NFq := Lib.hid (NF.out q)
      obtain ⟨rs2, hrs2⟩ : ∃ x, mix nf (fun i => ruAt rs i) (q + 1) = x := ⟨_, rfl⟩
      obtain ⟨ct2, hct2⟩ : ∃ x, mix cf (fun i => cnt.getD i 0) (q + 1) = x := ⟨_, rfl⟩
      rw [hrs2] at S1
      rw [hct2] at S2 S3
      have HR2 := Lib.hid hrs2
      have HC2 := Lib.hid hct2
      clear hrs2 hct2
      generalize mix nf (fun i => ruAt rs i) q = rs1 at S1 G1 M1 M3 HB
      generalize mix cf (fun i => cnt.getD i 0) q = ct1 at S2 S3 G2 M2 HB
      generalize cnt.getD q 0 = k0 at *
      obtain ⟨hst, hhst⟩ : ∃ x, SetM.has st q = x := ⟨_, rfl⟩
      obtain ⟨hen, hhen⟩ : ∃ x, SetM.has en q = x := ⟨_, rfl⟩
      obtain ⟨hpr, hhpr⟩ : ∃ x, SetM.has pr q = x := ⟨_, rfl⟩
      have HA : Hid (∀ W, Calls Try.prog 14 #[.int .i64 st, .int .i64 q] W fun e w' => e = .returned (.bool hst) ∧ W = w') := Lib.hid (fun W => by rw [← hhst]; exact RefS.rhas_any _ _ W)
      have HE : Hid (∀ W, Calls Try.prog 14 #[.int .i64 en, .int .i64 q] W fun e w' => e = .returned (.bool hen) ∧ W = w') := Lib.hid (fun W => by rw [← hhen]; exact RefS.rhas_any _ _ W)
      have HP : Hid (∀ W, Calls Try.prog 14 #[.int .i64 pr, .int .i64 q] W fun e w' => e = .returned (.bool hpr) ∧ W = w') := Lib.hid (fun W => by rw [← hhpr]; exact RefS.rhas_any _ _ W)
      have CU : Hid (cueS st en pr q = ⟨hst, hen, false, false, hpr, false, false, false⟩) := Lib.hid (by unfold cueS; rw [hhst, hhen, hhpr])
      rw [CU.out] at NFq
      rw [hhst] at CFq
      clear hhst hhen hhpr CU
      go_upto_region 9 with (first | (go_at_call 14; with_reducible refine (HA.out _).mono ?_; rintro e w' ⟨rfl, rfl⟩) | (go_at_call 14; with_reducible refine (HE.out _).mono ?_; rintro e w' ⟨rfl, rfl⟩) | (go_at_call 14; with_reducible refine (HP.out _).mono ?_; rintro e w' ⟨rfl, rfl⟩) | (refine wpList_build rfl 107 [(0, .tmp 67), (1, .tmp 70), (4, .tmp 73)] rfl (Cu.cells ⟨hst, hen, false, false, hpr, false, false, false⟩).toArray _ (by rfl) (builtC _ _ _) ?_) | (refine Row.wpList_store_new rfl 107 _ _ rfl _ _ (Cu.cells ⟨hst, hen, false, false, hpr, false, false, false⟩).toArray rfl rfl rfl infoCu rfl (one_cu _) ?_))
      have hn := HB.out.alloc (Cu.cells ⟨hst, hen, false, false, hpr, false, false, false⟩).toArray 107
      generalize World.alloc wr _ = w4 at hn ⊢
      generalize wr.heap.size = gc at hn ⊢
      have H4 := Lib.hid hn
      clear hn HB HA HE HP
      have c0 : w4.cell? ⟨gc, 0, none⟩ = some (.bool hst) := H4.out.cell 0 0 rfl rfl
      have kx : w4.cell? ⟨gx, 231 + q, none⟩ = some (I k0) := (pb L1.out M3.out M2.out H4.out 2 rfl).ct q k0 G2.out
      have fx : w4.frozen? ⟨gx, 231 + q, none⟩ = false := H4.out.frozen 2 (231 + q) rfl
      have e2 : IntKind.i64.wrap (k0 + 1) = k0 + 1 := by rw [IntKind.wrap_i64]; omega
      cases hst
      · have hct : ct2 = ct1 := S3.out (by rw [CFq.out]; simp)
        subst hct
        go_upto_region 11 with fail
        clear c0 kx fx e2
        have HV := Lib.hid H4.out.bel
        have PBY := Lib.hid (pb L1.out M3.out M2.out H4.out 2 rfl)
        have LX : Hid (∀ W, Below w4.heap.size w4 W → Lies W ⟨gx, q * 13, none⟩ (ph q).cells) := Lib.hid (fun W hb => LPH.out q hlt W gx (pb L1.out M3.out M2.out (H4.out.step hb) 2 rfl).lt)
        have LY : Hid (∀ W, Below w4.heap.size w4 W → Lies W ⟨gx, 135 + q * 12, none⟩ (ruAt rs q).cells) := Lib.hid (fun W hb j v hj => by
          rw [← G1.out] at hj
          have := (pb L1.out M3.out M2.out (H4.out.step hb) 2 rfl).ln (q * 12 + j) v (runs_at M1.out hlt hj)
          rw [Addr.add_mid] at this ⊢
          rwa [Nat.add_assoc])
        have NN : Hid (nf q = stp (ph q) (ruAt rs q) ⟨false, hen, false, false, hpr, false, false, false⟩) := NFq
        have STC : Hid (∀ W, Calls Try.prog 50 #[.agg (ph q).cells.toArray, .agg (ruAt rs q).cells.toArray, .agg (Cu.cells ⟨false, hen, false, false, hpr, false, false, false⟩).toArray] W fun e w' => e = .returned (.agg (nf q).cells.toArray) ∧ Below W.heap.size W w') := Lib.hid (fun W => by rw [NN.out]; exact Ru.rstep_any _ _ _ W)
        have HRUN := Lib.hid (pC_run (tc := tc) (r := ⟨rg, a0, a1, false⟩) (cnt := ct2) (cross := (cross + 1)) L1.out M1.out hlt (nf q))
        rw [S1.out] at HRUN
        have PL0 : Hid ((pC tc ⟨rg, a0, a1, false⟩ (runsC rs1) ct2 (cross + 1)).toArray.size = 240) := Lib.hid (by rw [List.size_toArray]; exact pC_len L1.out M3.out M2.out)
        generalize ph q = pq0 at LX STC
        generalize ruAt rs q = uq at LY STC
        generalize nf q = nq at STC HRUN
        clear PBY NN
        refine QT.region w4.heap.size 20 (by kernel_rfl) (by kernel_rfl) ?_
        simp only [List.take_succ_cons, List.take_zero]
        repeat first
          | (refine wpQuiet_load rfl 24 _ rfl ⟨gx, q * 13, none⟩ rfl pq0.cells _ (fun w' ⟨pw, e⟩ => by rw [e]; exact LX.out _ pw.below) Try.underlying24 rfl infoP ?_
             dsimp only [Act.put]
             simp only [List.setIfInBounds_toArray, List.set_cons_zero, List.set_cons_succ])
          | (refine wpQuiet_load rfl 45 _ rfl ⟨gx, 135 + q * 12, none⟩ rfl uq.cells _ (fun w' ⟨pw, e⟩ => by rw [e]; exact LY.out _ pw.below) Try.underlying45 rfl infoRu ?_
             dsimp only [Act.put]
             simp only [List.setIfInBounds_toArray, List.set_cons_zero, List.set_cons_succ])
          | (refine wpQuiet_load rfl 107 _ rfl ⟨gc, 0, none⟩ rfl (Cu.cells ⟨false, hen, false, false, hpr, false, false, false⟩) _ (fun w' ⟨pw, e⟩ => by rw [e]; exact seg (H4.out.by pw) 0 0 rfl _ rfl) Try.underlying107 rfl infoCu ?_
             dsimp only [Act.put]
             simp only [List.setIfInBounds_toArray, List.set_cons_zero, List.set_cons_succ])
          | (quiet_step (first | (go_at_call 50; with_reducible exact QB.call_of (Nat.le_refl _) (fun b => STC.out _))))
        refine wpQuiet_nil ?_
        intro _ hw'
        obtain ⟨py, rfl⟩ := hw'
        have H6 := Lib.hid (H4.out.by py)
        generalize py.world = w6 at H6 ⊢
        simp only [List.drop_succ_cons, List.drop_zero]
        go_wp2_with (refine Ru.store_mid rfl 45 _ _ rfl gx (135 + q * 12) nq.cells.toArray rfl rfl 57 _ _ H6.out 2 rfl infoRu (by rw [PL0.out]; show 135 + q * 12 + 12 ≤ 240; omega) (one_ru _) HRUN.out ?_)
        have hput := H6.out.put 2 rfl (pC tc ⟨rg, a0, a1, false⟩ (runsC rs2) ct2 (cross + 1)).toArray
        simp only [List.set_cons_succ, List.set_cons_zero] at hput
        generalize World.setRow w6 gx _ = w7 at hput ⊢
        have H7 := Lib.hid hput
        clear hput H6 H4 LX LY STC HRUN
        (try go_wp2)
        go_roundw
        case rel => exact ⟨q + 1, by omega, by go_num, by rw [HR2.out, HC2.out]; exact H7.out.drop⟩
        case measure => simp [intOf]; omega
      · have hct : ct1.set q (k0 + 1) = ct2 := by rw [← S2.out, CFq.out]; simp
        go_upto_region 10 with fail
        go_region
        have hput := (H4.out.set 2 (231 + q) rfl (I (k0 + 1))).drew
        rw [pC_cnt L1.out M3.out M2.out hlt, hct] at hput
        simp only [List.set_cons_succ, List.set_cons_zero] at hput
        generalize World.drew (World.setCell w4 _ _) = w5 at hput ⊢
        have H5 := Lib.hid hput
        have M22 : Hid (ct2.length = 8) := Lib.hid (by rw [← hct, List.length_set]; exact M2.out)
        clear hput kx fx H4 hct c0 e2
        go_upto_region 11 with fail
        have HV := Lib.hid H5.out.bel
        have PBY := Lib.hid (pb L1.out M3.out M22.out H5.out 2 rfl)
        have LX : Hid (∀ W, Below w5.heap.size w5 W → Lies W ⟨gx, q * 13, none⟩ (ph q).cells) := Lib.hid (fun W hb => LPH.out q hlt W gx (pb L1.out M3.out M22.out (H5.out.step hb) 2 rfl).lt)
        have LY : Hid (∀ W, Below w5.heap.size w5 W → Lies W ⟨gx, 135 + q * 12, none⟩ (ruAt rs q).cells) := Lib.hid (fun W hb j v hj => by
          rw [← G1.out] at hj
          have := (pb L1.out M3.out M22.out (H5.out.step hb) 2 rfl).ln (q * 12 + j) v (runs_at M1.out hlt hj)
          rw [Addr.add_mid] at this ⊢
          rwa [Nat.add_assoc])
        have NN : Hid (nf q = stp (ph q) (ruAt rs q) ⟨true, hen, false, false, hpr, false, false, false⟩) := NFq
        have STC : Hid (∀ W, Calls Try.prog 50 #[.agg (ph q).cells.toArray, .agg (ruAt rs q).cells.toArray, .agg (Cu.cells ⟨true, hen, false, false, hpr, false, false, false⟩).toArray] W fun e w' => e = .returned (.agg (nf q).cells.toArray) ∧ Below W.heap.size W w') := Lib.hid (fun W => by rw [NN.out]; exact Ru.rstep_any _ _ _ W)
        have HRUN := Lib.hid (pC_run (tc := tc) (r := ⟨rg, a0, a1, false⟩) (cnt := ct2) (cross := (cross + 1)) L1.out M1.out hlt (nf q))
        rw [S1.out] at HRUN
        have PL0 : Hid ((pC tc ⟨rg, a0, a1, false⟩ (runsC rs1) ct2 (cross + 1)).toArray.size = 240) := Lib.hid (by rw [List.size_toArray]; exact pC_len L1.out M3.out M22.out)
        generalize ph q = pq0 at LX STC
        generalize ruAt rs q = uq at LY STC
        generalize nf q = nq at STC HRUN
        clear PBY NN
        refine QT.region w5.heap.size 20 (by kernel_rfl) (by kernel_rfl) ?_
        simp only [List.take_succ_cons, List.take_zero]
        repeat first
          | (refine wpQuiet_load rfl 24 _ rfl ⟨gx, q * 13, none⟩ rfl pq0.cells _ (fun w' ⟨pw, e⟩ => by rw [e]; exact LX.out _ pw.below) Try.underlying24 rfl infoP ?_
             dsimp only [Act.put]
             simp only [List.setIfInBounds_toArray, List.set_cons_zero, List.set_cons_succ])
          | (refine wpQuiet_load rfl 45 _ rfl ⟨gx, 135 + q * 12, none⟩ rfl uq.cells _ (fun w' ⟨pw, e⟩ => by rw [e]; exact LY.out _ pw.below) Try.underlying45 rfl infoRu ?_
             dsimp only [Act.put]
             simp only [List.setIfInBounds_toArray, List.set_cons_zero, List.set_cons_succ])
          | (refine wpQuiet_load rfl 107 _ rfl ⟨gc, 0, none⟩ rfl (Cu.cells ⟨true, hen, false, false, hpr, false, false, false⟩) _ (fun w' ⟨pw, e⟩ => by rw [e]; exact seg (H5.out.by pw) 0 0 rfl _ rfl) Try.underlying107 rfl infoCu ?_
             dsimp only [Act.put]
             simp only [List.setIfInBounds_toArray, List.set_cons_zero, List.set_cons_succ])
          | (quiet_step (first | (go_at_call 50; with_reducible exact QB.call_of (Nat.le_refl _) (fun b => STC.out _))))
        refine wpQuiet_nil ?_
        intro _ hw'
        obtain ⟨py, rfl⟩ := hw'
        have H6 := Lib.hid (H5.out.by py)
        generalize py.world = w6 at H6 ⊢
        simp only [List.drop_succ_cons, List.drop_zero]
        go_wp2_with (refine Ru.store_mid rfl 45 _ _ rfl gx (135 + q * 12) nq.cells.toArray rfl rfl 57 _ _ H6.out 2 rfl infoRu (by rw [PL0.out]; show 135 + q * 12 + 12 ≤ 240; omega) (one_ru _) HRUN.out ?_)
        have hput := H6.out.put 2 rfl (pC tc ⟨rg, a0, a1, false⟩ (runsC rs2) ct2 (cross + 1)).toArray
        simp only [List.set_cons_succ, List.set_cons_zero] at hput
        generalize World.setRow w6 gx _ = w7 at hput ⊢
        have H7 := Lib.hid hput
        clear hput H6 H5 LX LY STC HRUN
        (try go_wp2)
        go_roundw
        case rel => exact ⟨q + 1, by omega, by go_num, by rw [HR2.out, HC2.out]; exact H7.out.drop⟩
        case measure => simp [intOf]; omega
    · obtain rfl : q = 8 := by omega
      have M4 := pC_put L1.out M3.out M2.out (r := ⟨rg, a0, a1, false⟩) (cross := (cross + 1)) ⟨sg, s0, s1, true⟩
      obtain ⟨rs1, hrs1⟩ : ∃ x, mix nf (fun i => ruAt rs i) 8 = x := ⟨_, rfl⟩
      obtain ⟨ct1, hct1⟩ : ∃ x, mix cf (fun i => cnt.getD i 0) 8 = x := ⟨_, rfl⟩
      rw [hrs1, hct1] at HB M4
      rw [hrs1] at M1 M3
      rw [hct1] at M2
      have HR8 := Lib.hid hrs1
      have HC8 := Lib.hid hct1
      clear hrs1 hct1
      have HM4 := Lib.hid M4
      clear M4
      have PL4 : Hid ((pC tc ⟨rg, a0, a1, false⟩ (runsC rs1) ct1 (cross + 1)).toArray.size = 240) := Lib.hid (by rw [List.size_toArray]; exact pC_len L1.out M3.out M2.out)
      go_upto_region 13 with (first | (refine Row.wpList_load_g 36 _ rfl (by first | rfl | (go_simp; done) | fail) ⟨gq, 0, none⟩ rfl (Rg.cells ⟨sg, s0, s1, true⟩) _ (seg HB.out 0 0 rfl _ rfl) Try.underlying36 rfl infoRg ?_) | (refine Ru.store_mid rfl 36 _ _ rfl gx 131 (Rg.cells ⟨sg, s0, s1, true⟩).toArray rfl rfl 57 _ _ HB.out 1 rfl infoRg (by rw [PL4.out]; show 131 + 4 ≤ 240; omega) (one_rg _) HM4.out ?_))
      have hput := HB.out.put 1 rfl (pC tc ⟨sg, s0, s1, true⟩ (runsC rs1) ct1 (cross + 1)).toArray
      simp only [List.set_cons_succ, List.set_cons_zero] at hput
      generalize World.setRow wr gx _ = w9 at hput ⊢
      have H9 := Lib.hid hput
      clear hput HB HM4 PL4
      go_wp2
      go_ret2
      exact ⟨rfl, (show Blk.Bks u0 [(gx, (pC tc ⟨sg, s0, s1, true⟩ (runsC (mix nf (fun i => ruAt rs i) 8)) (mix cf (fun i => cnt.getD i 0) 8) (crS cross false true)).toArray, 57)] w9 from by rw [HR8.out, HC8.out, show crS cross false true = (cross + 1) from rfl]; exact H9.out.drop)⟩
end Rg
namespace Rg
open Go Tab PlanM Ru
open Go.RowKit
open ChkM (cfAt)
open Clear (phAt)
theorem once_tick (u0 : World) (T : Tab) (hd : Hd) (G : Gd T) (few : T.groups.length ≤ 1000) (r : Rg) (rs : List Ru) (cnt : List Int) (cross want : Int) (gx : Nat) (w : World) (TB : ∀ W, Below u0.heap.size u0 W → IsTab W hd T) (hI : Inv T r rs) (hC : CI T r cnt) (hx : 0 ≤ cross ∧ cross ≤ 1000000000) (hw : Blk.Bks u0 [(gx, (pC (T.cells hd) r (runsC rs) cnt cross).toArray, 57)] w) :
    Calls Try.prog 20 #[.pointer (some ⟨gx, 0, none⟩), .int .i64 want] w fun e w' => ∃ st en r' rs' cnt' cross', e = .returned (.tuple #[I st, I en]) ∧ Blk.Bks u0 [(gx, (pC (T.cells hd) r' (runsC rs') cnt' cross').toArray, 57)] w' ∧ Inv T r' rs' ∧ cnt'.length = 8 ∧ ((cross' = cross ∧ CI T r' cnt') ∨ (cross' = cross + 1 ∧ CI T r' (List.replicate 8 0))) := by
  refine (tick_any u0 T hd r rs cnt cross want gx w TB hI.len hC.len hC.all hx hI.g0 few hw).mono ?_
  rintro e w' ⟨rfl, hB⟩
  refine ⟨_, _, _, _, _, _, rfl, hB, inv_tick G hI want _, cnt_len _ _, ?_⟩
  have h := ci_tick G hI hC want
  unfold crS
  by_cases hc : (stepS T r rs want).r.cr = true ∧ r.cr = false
  · rw [if_pos hc] at h
    exact .inr ⟨by rw [hc.1, hc.2]; rfl, h⟩
  · rw [if_neg hc] at h
    refine .inl ⟨?_, h⟩
    cases h1 : (stepS T r rs want).r.cr with
    | false => rfl
    | true =>
      cases h2 : r.cr with
      | true => rfl
      | false => exact absurd ⟨h1, h2⟩ hc
theorem once_red {T : Tab} (G : Gd T) {r : Rg} {rs : List Ru} (hI : Inv T r rs) {p q : Nat} (hp : p < 8) (hq : q < 8) (hc : clsS T p q = true) : (bits .and .i64 (thS rdB rs : Nat) (bits .or .i64 (wrap64 ((2 : Int) ^ p)) (wrap64 ((2 : Int) ^ q))) == 0) = false := by
  refine two_reds hp hq ?_
  rw [rds_in hI.len ⟨by omega, by omega⟩, rds_in hI.len ⟨by omega, by omega⟩]
  exact (inv_clash G hI ⟨by omega, by omega⟩ ⟨by omega, by omega⟩ hc).imp (rd_bu _) (rd_bu _)
end Rg
namespace Rg
open Go Tab PlanM Ru
def plPl : Array (Nat × Nat) := #[(0, 131), (131, 4), (135, 96), (231, 8), (239, 1)]
def rest0 : List Value := Rg.cells ⟨0, 0, 0, false⟩ ++ (runsC (List.replicate 8 zRu) ++ ((List.replicate 8 0).map I ++ [I 0]))
theorem built_pl : ∃ Z : List Value, Z.length = 240 ∧ Z.drop 131 = rest0 ∧ ∀ parts, Try.prog.built 57 parts = Instr.fill (plPl[·]?) Z.toArray parts :=
  ⟨((Try.prog.info? 57).bind (·.zero)).elim [] (fun v => v.cells.toList), by kernel_rfl, by kernel_rfl, fun parts => by kernel_rfl⟩
theorem builtPl {tc : List Value} (h1 : tc.length = 131) : Try.prog.built 57 [(0, .agg tc.toArray)] = some (pC tc ⟨0, 0, 0, false⟩ (runsC (List.replicate 8 zRu)) (List.replicate 8 0) 0).toArray := by
  obtain ⟨Z, hz, hr, hb⟩ := built_pl
  rw [hb]
  have e0 : Z.toArray = ([] ++ Z.drop ([] : List Value).length).toArray := by simp
  rw [e0, fill_one _ Z [] tc 0 _ _ (by rw [h1]; rfl) rfl (by simp; omega), Instr.fill]
  rw [show (([] : List Value) ++ tc).length = 131 by simp [h1], hr]
  simp [pC, rest0]
theorem foldPl {tc : List Value} (h1 : tc.length = 131) : List.foldl (fun (cs : Array Value) (x : Value × Nat) => cs.setIfInBounds x.snd x.fst) Try.zeroCells57 tc.zipIdx = (pC tc ⟨0, 0, 0, false⟩ (runsC (List.replicate 8 zRu)) (List.replicate 8 0) 0).toArray := by
  have hs : Try.zeroCells57.size = 240 := by kernel_rfl
  have hz : Try.zeroCells57.toList.drop 131 = rest0 := by kernel_rfl
  have h := fold_set 0 tc 0 Try.zeroCells57 (by rw [h1, hs]; omega)
  simp only [Nat.zero_add] at h
  rw [h, h1, hz]
  simp [pC, rest0]
theorem one34 (x y : Int) : (#[I x, I y] : Array Value).all (·.oneCell') = true := by simp [Value.oneCell']
theorem built34 (x y : Int) : Try.prog.built 34 [(0, I x), (1, I y)] = some #[I x, I y] := by kernel_rfl
theorem info34 : (Try.prog.info? 34).map (·.size) = some 2 := by kernel_rfl
theorem built27 : Try.prog.built 27 [] = some ((List.replicate 8 0).map I).toArray := by kernel_rfl
theorem info27 : (Try.prog.info? 27).map (·.size) = some 8 := by kernel_rfl
section
variable {tc : List Value} {r : Rg} {rc : List Value} {cnt : List Int} {cross : Int} (h1 : tc.length = 131) (h2 : rc.length = 96) (h3 : cnt.length = 8)
include h1 h2 h3
theorem pC_ats (x y : Int) : ((pC tc r rc cnt cross).toArray.toList.take 132 ++ (#[I x, I y] : Array Value).toList ++ (pC tc r rc cnt cross).toArray.toList.drop (132 + (#[I x, I y] : Array Value).size)).toArray = (pC tc ⟨r.g, x, y, r.cr⟩ rc cnt cross).toArray := by
  apply Array.ext'
  have e : pC tc r rc cnt cross = (tc ++ [I r.g]) ++ ([I r.a0, I r.a1] ++ ([.bool r.cr] ++ (rc ++ (cnt.map I ++ [I cross])))) := by simp [pC, Rg.cells]
  have hl : (tc ++ [I r.g]).length = 132 := by simp [h1]
  have e1 : (pC tc r rc cnt cross).take 132 = tc ++ [I r.g] := by rw [e]; exact List.take_left' hl
  have e2 : (pC tc r rc cnt cross).drop (132 + 2) = [.bool r.cr] ++ (rc ++ (cnt.map I ++ [I cross])) := by
    rw [e, ← List.drop_drop, List.drop_left' hl]; rfl
  rw [List.toList_toArray, List.toList_toArray, show (#[I x, I y] : Array Value).size = 2 from rfl, e1, e2]
  simp [pC, Rg.cells]
theorem pC_runs {rc' : List Value} (h2' : rc'.length = 96) : ((pC tc r rc cnt cross).toArray.toList.take 135 ++ rc'.toArray.toList ++ (pC tc r rc cnt cross).toArray.toList.drop (135 + rc'.toArray.size)).toArray = (pC tc r rc' cnt cross).toArray := by
  apply Array.ext'
  have e : pC tc r rc cnt cross = (tc ++ r.cells) ++ (rc ++ (cnt.map I ++ [I cross])) := by simp [pC]
  have hl : (tc ++ r.cells).length = 135 := by simp [h1, Rg.cells]
  have e1 : (pC tc r rc cnt cross).take 135 = tc ++ r.cells := by rw [e]; exact List.take_left' hl
  have e2 : (pC tc r rc cnt cross).drop (135 + 96) = cnt.map I ++ [I cross] := by
    rw [e, ← List.drop_drop, List.drop_left' hl, List.drop_left' h2]
  rw [List.toList_toArray, List.toList_toArray, List.toList_toArray, List.size_toArray, h2', e1, e2]
  simp [pC]
theorem pC_cnts {cnt' : List Int} (h3' : cnt'.length = 8) : ((pC tc r rc cnt cross).toArray.toList.take 231 ++ (cnt'.map I).toArray.toList ++ (pC tc r rc cnt cross).toArray.toList.drop (231 + (cnt'.map I).toArray.size)).toArray = (pC tc r rc cnt' cross).toArray := by
  apply Array.ext'
  have e : pC tc r rc cnt cross = (tc ++ r.cells ++ rc) ++ (cnt.map I ++ [I cross]) := by simp [pC]
  have hl : (tc ++ r.cells ++ rc).length = 231 := by simp [h1, h2, Rg.cells]
  have e1 : (pC tc r rc cnt cross).take 231 = tc ++ r.cells ++ rc := by rw [e]; exact List.take_left' hl
  have e2 : (pC tc r rc cnt cross).drop (231 + 8) = [I cross] := by
    rw [e, ← List.drop_drop, List.drop_left' hl, List.drop_left' (by simp [h3])]
  rw [List.toList_toArray, List.toList_toArray, List.toList_toArray, List.size_toArray, List.length_map, h3', e1, e2]
  simp [pC]
end
theorem one_ints (l : List Int) : (l.map I).toArray.all (·.oneCell') = true := by
  rw [List.all_toArray, List.all_map]
  exact List.all_eq_true.2 fun x _ => rfl
end Rg
end Go.Proofs.Ytjgpljnbeolapaa
