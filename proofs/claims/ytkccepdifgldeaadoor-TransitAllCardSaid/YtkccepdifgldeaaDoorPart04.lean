/- 3 texts in one file, in build order. -/
import Derived.Test.YtkccepdifgldeaaDoorPart03
import Derived.Test.YtkccepdifgldeaaDoorPart01
import Derived.BigQuiet
import Derived.Deep.Cut
import Derived.Deep.CutRange
import Derived.Deep.RegionHeld
set_option linter.unusedVariables false
set_option linter.unusedSimpArgs false
set_option linter.unusedSectionVars false
set_option maxHeartbeats 8000000
set_option maxRecDepth 100000
namespace Go.Proofs.YtkccepdifgldeaaDoor
namespace Tr
attribute [local go_sem] Oper.semAt_some
open Go Go.ChangeShapes Go.WideShapes Go.ChangeAt Go.RowKit
open Tab Flat TabArg QL Ru Rg PlanM
theorem rearly_any (T : Tab) (hd : Hd) (s : Rid) (rs : List Ru) (ask : Int) (w : World) (ht : IsTab w hd T) (h8 : rs.length = 8) : Calls Tryd.prog 15 #[.agg (T.cells hd).toArray, .agg s.cells.toArray, .agg (runsC rs).toArray, .int .i64 ask] w fun e w' => e = .returned (.int .i64 (earlyS T s rs ask)) ∧ Below w.heap.size w w' := by
  have h1 : (T.cells hd).length = 131 := by have := (cells_ok ht).size; rwa [List.size_toArray] at this
  have IA : (Tryd.prog.info? 31).map (·.size) = some (T.cells hd).length := by rw [h1]; exact May.infoT
  have IR : (Tryd.prog.info? 41).map (·.size) = some (runsC rs).length := by rw [runs_len, h8]; exact infoRs
  obtain ⟨gn, hgn⟩ : ∃ g : Int, (thS grB rs : Nat) = g := ⟨_, rfl⟩
  have GR : Hid (∀ W, Calls Tryd.prog 20 #[.agg (runsC rs).toArray] W fun e w' => e = .returned (.int .i64 gn) ∧ Below W.heap.size W w') := Lib.hid (fun W => by rw [← hgn]; exact rgreen_any rs h8 W)
  obtain ⟨live, hlive⟩ : ∃ l : Int, (liveS T s ask : Nat) = l := ⟨_, rfl⟩
  have LV : Hid (∀ W, Below w.heap.size w W → Calls Tryd.prog 11 #[.agg (T.cells hd).toArray, .agg s.cells.toArray, .int .i64 ask] W fun e w' => e = .returned (.int .i64 live) ∧ Below W.heap.size W w') := Lib.hid (fun W hb => by rw [← hlive]; exact rlive_any T hd s ask W (ht.below hb))
  have HF : Hid (∀ F : Int → Nat → Int, F = (fun (a : Int) (k : Nat) => if SetM.has live k then (if bits .and .i64 (busAt T.buses k).set gn = 0 then bits .or .i64 a (bits .andNot .i64 255 (busAt T.buses k).set) else a) else a) → earlyS T s rs ask = (List.range (nB T.buses)).foldl F 0) := Lib.hid (fun F e => by
    unfold earlyS eS
    rw [hgn, hlive, fold_eL, e])
  obtain ⟨F, hF⟩ : ∃ F : Int → Nat → Int, F = (fun (a : Int) (k : Nat) => if SetM.has live k then (if bits .and .i64 (busAt T.buses k).set gn = 0 then bits .or .i64 a (bits .andNot .i64 255 (busAt T.buses k).set) else a) else a) := ⟨_, rfl⟩
  have HL := Lib.hid (HF.out F hF)
  generalize earlyS T s rs ask = res at HL ⊢
  have F0 : Hid (∀ a (k : Nat), SetM.has live k = false → F a k = a) := Lib.hid (fun a k h => by rw [hF]; simp [h])
  have F1 : Hid (∀ a (k : Nat), SetM.has live k = true → bits .and .i64 (busAt T.buses k).set gn = 0 → F a k = bits .or .i64 a (bits .andNot .i64 255 (busAt T.buses k).set)) := Lib.hid (fun a k h h2 => by rw [hF]; simp [h, h2])
  have F2 : Hid (∀ a (k : Nat), SetM.has live k = true → ¬ bits .and .i64 (busAt T.buses k).set gn = 0 → F a k = a) := Lib.hid (fun a k h h2 => by rw [hF]; simp [h, h2])
  clear hF HF hgn hlive
  have NW : Hid (∀ q, q ≤ nB T.buses → (q < T.buses.length ∧ q < 4 ∧ q < nB T.buses) ∨ (q = nB T.buses ∧ ¬ q < T.buses.length) ∨ (q = nB T.buses ∧ q < T.buses.length ∧ q = 4)) := Lib.hid (fun q h => nB_way h)
  have hcb := tab_bu ht
  have BUS : Hid (∀ q, q < T.buses.length → ∀ W, Below w.heap.size w W → ∃ x, hd.b.a = some x ∧ W.cell? (x.add (q * 2)) = some (I (busAt T.buses q).set) ∧ W.cell? ⟨(x.add (q * 2)).block, (x.add (q * 2)).off + 1, none⟩ = some (I (busAt T.buses q).lock)) := Lib.hid (fun q hq W hb => by
    obtain ⟨x, h1, h2⟩ := (ht.below hb).buses.at (bus_at hq)
    have c0 := h2 0 _ rfl
    have c1 := h2 1 _ rfl
    rw [Tab.add_zero] at c0
    rw [Tab.add_one] at c1
    exact ⟨x, h1, c0, c1⟩)
  generalize nB T.buses = m at *
  generalize hbl : T.buses.length = bl at *
  clear hbl
  have hn0 := Blk.Bks.nil w
  have hn1 := hn0.alloc (T.cells hd).toArray 31
  have hn2 := hn1.alloc s.cells.toArray 34
  rw [show (w.alloc (.cells (T.cells hd).toArray 31)).heap.size = w.heap.size + 1 by simp] at hn2
  have hn3 := hn2.alloc (runsC rs).toArray 41
  rw [show ((w.alloc (.cells (T.cells hd).toArray 31)).alloc (.cells s.cells.toArray 34)).heap.size = w.heap.size + 1 + 1 by simp] at hn3
  clear hn0
  clear hn1
  clear hn2
  go_enter Tryd.func15, Tryd.ntmps15
  go_upto_region 2 with fail
  generalize World.alloc (World.alloc (World.alloc w _) _) _ = v at hn3 ⊢
  generalize hg2 : w.heap.size + 1 + 1 = gr at hn3 ⊢
  generalize hg1 : w.heap.size + 1 = gs at hn3 ⊢
  generalize hg0 : w.heap.size = gt at hn3 ⊢
  clear hg0 hg1 hg2
  have H0 := Lib.hid hn3
  clear hn3
  have KB : Hid (∀ W, Below v.heap.size v W → W.cell? ⟨gt, 115, none⟩ = some (.slice hd.b.a bl hd.b.cap)) := Lib.hid (fun W hb => (H0.out.step hb).cell 2 115 rfl (by rw [List.getElem?_toArray]; exact hcb))
  have HV := Lib.hid H0.out.bel
  clear hcb
  go_wp2
  go_loopw [9, 10] (fun n k wr => ∃ q : Nat, q ≤ m ∧ k = .int .i64 q ∧ n = .int .i64 ((List.range q).foldl F 0) ∧ Below v.heap.size v wr) (fun _ k _ => m - (intOf k).toNat)
  case atStart => exact ⟨0, Nat.zero_le _, rfl, rfl, Below.refl _ _⟩
  case round =>
    obtain ⟨q, hq, rfl, rfl, hbel⟩ := hrel
    have HB := Lib.hid hbel
    have cb := KB.out wr hbel
    clear hbel
    rcases NW.out q hq with ⟨h1, h2, h3⟩ | ⟨h1, h2⟩ | ⟨h1, h2, h3⟩
    · have g1 : (q : Int) < (bl : Int) := by omega
      have g2 : (q : Int) < 4 := by omega
      have HS : Hid ((List.range (q + 1)).foldl F 0 = F ((List.range q).foldl F 0) q) := Lib.hid (by rw [List.range_succ, List.foldl_append]; rfl)
      obtain ⟨x, hx, c0, c1⟩ := BUS.out q h1 wr (HV.out.trans (HB.out.mono HV.out.size))
      rw [hx] at cb
      have H1 := Lib.hid (H0.out.step HB.out)
      have G1 := Lib.hid h1
      have q5 : ∀ y : QB.By wr.heap.size wr, y.world.cell? ⟨gt, 115, none⟩ = some (.slice (some x) bl hd.b.cap) := fun y => (y.below.cell (World.block_lt_of_cell? wr _ cb)).trans cb
      have q6 : ∀ y : QB.By wr.heap.size wr, y.world.cell? (x.add (q * 2)) = some (I (busAt T.buses q).set) := fun y => (y.below.cell (World.block_lt_of_cell? wr _ c0)).trans c0
      have HW := Lib.hid (HV.out.trans (HB.out.mono HV.out.size))
      cases hh : SetM.has live q
      · have HO := Lib.hid (HS.out.trans (F0.out _ q hh))
        have HB1 := Lib.hid (fun w => rbit_is (show q < 8 by omega) hh w)
        generalize (List.range q).foldl F 0 = n0 at HO ⊢
        clear hh HS
        go_upto_region 5 with fail
        refine QB.region_below wr.heap.size (by kernel_rfl) (by kernel_rfl) ?_
        refine Wqs.W.out ?_
        refine Wqs.load (by kernel_rfl) 31 _ rfl ⟨gt, 0, none⟩ rfl (T.cells hd) _ (fun w' ⟨pw, e⟩ => by rw [e]; exact seg (H1.out.by pw) 2 0 rfl _ (by simp)) Tryd.underlying31 rfl IA ?_
        dsimp only [Act.put]
        simp only [List.setIfInBounds_toArray, List.set_cons_zero, List.set_cons_succ]
        refine Wqs.load (by kernel_rfl) 34 _ rfl ⟨gs, 0, none⟩ rfl s.cells _ (fun w' ⟨pw, e⟩ => by rw [e]; exact seg (H1.out.by pw) 1 0 rfl _ rfl) Tryd.underlying34 rfl infoRd ?_
        dsimp only [Act.put]
        simp only [List.setIfInBounds_toArray, List.set_cons_zero, List.set_cons_succ]
        refine Wqs.want (by kernel_rfl) (fun K hK => ?_)
        go_big_quiet_op
        refine hK _ ?_
        clear hK K
        refine Wqs.want (by kernel_rfl) (fun K hK => ?_)
        go_big_quiet_op
        apply Exists.intro
        refine ⟨fun _ => ?_, ?_⟩
        · (go_at_call 11; with_reducible exact QB.call_of (Nat.le_refl _) (fun b => LV.out _ (HW.out.trans (b.mono HW.out.size))))
        refine hK _ ?_
        clear hK K
        refine Wqs.want (by kernel_rfl) (fun K hK => ?_)
        go_big_quiet_op
        refine hK _ ?_
        clear hK K
        refine Wqs.want (by kernel_rfl) (fun K hK => ?_)
        go_big_quiet_op
        apply Exists.intro
        refine ⟨fun _ => ?_, ?_⟩
        · (go_at_call 22; with_reducible exact QB.call_of (Nat.le_refl _) (fun b => (HB1.out _).mono fun e w' h => ⟨h.1, h.2 ▸ Below.refl _ _⟩))
        refine hK _ ?_
        clear hK K
        refine Wqs.want (by kernel_rfl) (fun K hK => ?_)
        go_big_quiet_op
        refine hK _ ?_
        clear hK K
        refine Wqs.skip (by kernel_rfl) ?_
        dsimp only [Act.put]
        simp only [List.setIfInBounds_toArray, List.set_cons_zero, List.set_cons_succ]
        refine Wqs.skip (by kernel_rfl) ?_
        dsimp only [Act.put]
        simp only [List.setIfInBounds_toArray, List.set_cons_zero, List.set_cons_succ]
        refine Wqs.skip (by kernel_rfl) ?_
        dsimp only [Act.put]
        simp only [List.setIfInBounds_toArray, List.set_cons_zero, List.set_cons_succ]
        refine Wqs.skip (by kernel_rfl) ?_
        dsimp only [Act.put]
        simp only [List.setIfInBounds_toArray, List.set_cons_zero, List.set_cons_succ]
        refine Wqs.skip (by kernel_rfl) ?_
        dsimp only [Act.put]
        simp only [List.setIfInBounds_toArray, List.set_cons_zero, List.set_cons_succ]
        refine Wqs.skip (by kernel_rfl) ?_
        dsimp only [Act.put]
        simp only [List.setIfInBounds_toArray, List.set_cons_zero, List.set_cons_succ]
        refine Wqs.skip (by kernel_rfl) ?_
        dsimp only [Act.put]
        simp only [List.setIfInBounds_toArray, List.set_cons_zero, List.set_cons_succ]
        refine Wqs.skip (by kernel_rfl) ?_
        dsimp only [Act.put]
        simp only [List.setIfInBounds_toArray, List.set_cons_zero, List.set_cons_succ]
        refine Wqs.skip (by kernel_rfl) ?_
        dsimp only [Act.put]
        simp only [List.setIfInBounds_toArray, List.set_cons_zero, List.set_cons_succ]
        refine Wqs.skip (by kernel_rfl) ?_
        dsimp only [Act.put]
        simp only [List.setIfInBounds_toArray, List.set_cons_zero, List.set_cons_succ]
        refine Wqs.want (by kernel_rfl) (fun K hK => ?_)
        go_big_quiet_op
        refine hK _ ?_
        clear hK K
        refine Wqs.nil ?_
        intro _ hw'
        obtain ⟨pq, rfl⟩ := hw'
        have HB2 := Lib.hid (HB.out.trans (pq.below.mono HB.out.size))
        generalize pq.world = vp at HB2 ⊢
        clear q5 q6 c0 c1 cb
        go_wp2
        go_roundw
        case rel => exact ⟨q + 1, by omega, by go_num, by rw [HO.out], HB2.out⟩
        case measure => simp [intOf]; omega
      · have HB1 := Lib.hid (fun w => rbit_is (show q < 8 by omega) hh w)
        by_cases hz : bits .and .i64 (busAt T.buses q).set gn = 0
        · have HO := Lib.hid (HS.out.trans (F1.out _ q hh hz))
          have hz2 : (bits .and .i64 (busAt T.buses q).set gn == 0) = true := beq_iff_eq.2 hz
          generalize (List.range q).foldl F 0 = n0 at HO ⊢
          clear hh HS hz
          go_upto_region 5 with fail
          refine QB.region_below wr.heap.size (by kernel_rfl) (by kernel_rfl) ?_
          refine Wqs.W.out ?_
          refine Wqs.load (by kernel_rfl) 31 _ rfl ⟨gt, 0, none⟩ rfl (T.cells hd) _ (fun w' ⟨pw, e⟩ => by rw [e]; exact seg (H1.out.by pw) 2 0 rfl _ (by simp)) Tryd.underlying31 rfl IA ?_
          dsimp only [Act.put]
          simp only [List.setIfInBounds_toArray, List.set_cons_zero, List.set_cons_succ]
          refine Wqs.load (by kernel_rfl) 34 _ rfl ⟨gs, 0, none⟩ rfl s.cells _ (fun w' ⟨pw, e⟩ => by rw [e]; exact seg (H1.out.by pw) 1 0 rfl _ rfl) Tryd.underlying34 rfl infoRd ?_
          dsimp only [Act.put]
          simp only [List.setIfInBounds_toArray, List.set_cons_zero, List.set_cons_succ]
          refine Wqs.want (by kernel_rfl) (fun K hK => ?_)
          go_big_quiet_op
          refine hK _ ?_
          clear hK K
          refine Wqs.want (by kernel_rfl) (fun K hK => ?_)
          go_big_quiet_op
          apply Exists.intro
          refine ⟨fun _ => ?_, ?_⟩
          · (go_at_call 11; with_reducible exact QB.call_of (Nat.le_refl _) (fun b => LV.out _ (HW.out.trans (b.mono HW.out.size))))
          refine hK _ ?_
          clear hK K
          refine Wqs.want (by kernel_rfl) (fun K hK => ?_)
          go_big_quiet_op
          refine hK _ ?_
          clear hK K
          refine Wqs.want (by kernel_rfl) (fun K hK => ?_)
          go_big_quiet_op
          apply Exists.intro
          refine ⟨fun _ => ?_, ?_⟩
          · (go_at_call 22; with_reducible exact QB.call_of (Nat.le_refl _) (fun b => (HB1.out _).mono fun e w' h => ⟨h.1, h.2 ▸ Below.refl _ _⟩))
          refine hK _ ?_
          clear hK K
          refine Wqs.want (by kernel_rfl) (fun K hK => ?_)
          go_big_quiet_op
          refine hK _ ?_
          clear hK K
          refine Wqs.want (by kernel_rfl) (fun K hK => ?_)
          go_big_quiet_op
          refine hK _ ?_
          clear hK K
          refine Wqs.want (by kernel_rfl) (fun K hK => ?_)
          go_big_quiet_op
          refine hK _ ?_
          clear hK K
          refine Wqs.want (by kernel_rfl) (fun K hK => ?_)
          go_big_quiet_op
          refine hK _ ?_
          clear hK K
          refine Wqs.want (by kernel_rfl) (fun K hK => ?_)
          go_big_quiet_op
          refine hK _ ?_
          clear hK K
          refine Wqs.want (by kernel_rfl) (fun K hK => ?_)
          go_big_quiet_op
          refine hK _ ?_
          clear hK K
          refine Wqs.want (by kernel_rfl) (fun K hK => ?_)
          go_big_quiet_op
          refine hK _ ?_
          clear hK K
          refine Wqs.load (by kernel_rfl) 41 _ rfl ⟨gr, 0, none⟩ rfl (runsC rs) _ (fun w' ⟨pw, e⟩ => by rw [e]; exact seg (H1.out.by pw) 0 0 rfl _ (by simp)) Tryd.underlying41 rfl IR ?_
          dsimp only [Act.put]
          simp only [List.setIfInBounds_toArray, List.set_cons_zero, List.set_cons_succ]
          refine Wqs.want (by kernel_rfl) (fun K hK => ?_)
          go_big_quiet_op
          apply Exists.intro
          refine ⟨fun _ => ?_, ?_⟩
          · (go_at_call 20; with_reducible exact QB.call_of (Nat.le_refl _) (fun b => GR.out _))
          refine hK _ ?_
          clear hK K
          refine Wqs.want (by kernel_rfl) (fun K hK => ?_)
          go_big_quiet_op
          refine hK _ ?_
          clear hK K
          refine Wqs.want (by kernel_rfl) (fun K hK => ?_)
          go_big_quiet_op
          refine hK _ ?_
          clear hK K
          refine Wqs.want (by kernel_rfl) (fun K hK => ?_)
          go_big_quiet_op
          refine hK _ ?_
          clear hK K
          refine Wqs.nil ?_
          intro _ hw'
          obtain ⟨pq, rfl⟩ := hw'
          have HB2 := Lib.hid (HB.out.trans (pq.below.mono HB.out.size))
          have cb2 := q5 pq
          have c02 := q6 pq
          generalize pq.world = vp at HB2 cb2 c02 ⊢
          clear q5 q6 c0 c1 cb
          go_wp2
          go_roundw
          case rel => exact ⟨q + 1, by omega, by go_num, by rw [HO.out], HB2.out⟩
          case measure => simp [intOf]; omega
        · have HO := Lib.hid (HS.out.trans (F2.out _ q hh hz))
          have hz2 : (bits .and .i64 (busAt T.buses q).set gn == 0) = false := beq_eq_false_iff_ne.2 hz
          generalize (List.range q).foldl F 0 = n0 at HO ⊢
          clear hh HS hz
          go_upto_region 5 with fail
          refine QB.region_below wr.heap.size (by kernel_rfl) (by kernel_rfl) ?_
          refine Wqs.W.out ?_
          refine Wqs.load (by kernel_rfl) 31 _ rfl ⟨gt, 0, none⟩ rfl (T.cells hd) _ (fun w' ⟨pw, e⟩ => by rw [e]; exact seg (H1.out.by pw) 2 0 rfl _ (by simp)) Tryd.underlying31 rfl IA ?_
          dsimp only [Act.put]
          simp only [List.setIfInBounds_toArray, List.set_cons_zero, List.set_cons_succ]
          refine Wqs.load (by kernel_rfl) 34 _ rfl ⟨gs, 0, none⟩ rfl s.cells _ (fun w' ⟨pw, e⟩ => by rw [e]; exact seg (H1.out.by pw) 1 0 rfl _ rfl) Tryd.underlying34 rfl infoRd ?_
          dsimp only [Act.put]
          simp only [List.setIfInBounds_toArray, List.set_cons_zero, List.set_cons_succ]
          refine Wqs.want (by kernel_rfl) (fun K hK => ?_)
          go_big_quiet_op
          refine hK _ ?_
          clear hK K
          refine Wqs.want (by kernel_rfl) (fun K hK => ?_)
          go_big_quiet_op
          apply Exists.intro
          refine ⟨fun _ => ?_, ?_⟩
          · (go_at_call 11; with_reducible exact QB.call_of (Nat.le_refl _) (fun b => LV.out _ (HW.out.trans (b.mono HW.out.size))))
          refine hK _ ?_
          clear hK K
          refine Wqs.want (by kernel_rfl) (fun K hK => ?_)
          go_big_quiet_op
          refine hK _ ?_
          clear hK K
          refine Wqs.want (by kernel_rfl) (fun K hK => ?_)
          go_big_quiet_op
          apply Exists.intro
          refine ⟨fun _ => ?_, ?_⟩
          · (go_at_call 22; with_reducible exact QB.call_of (Nat.le_refl _) (fun b => (HB1.out _).mono fun e w' h => ⟨h.1, h.2 ▸ Below.refl _ _⟩))
          refine hK _ ?_
          clear hK K
          refine Wqs.want (by kernel_rfl) (fun K hK => ?_)
          go_big_quiet_op
          refine hK _ ?_
          clear hK K
          refine Wqs.want (by kernel_rfl) (fun K hK => ?_)
          go_big_quiet_op
          refine hK _ ?_
          clear hK K
          refine Wqs.want (by kernel_rfl) (fun K hK => ?_)
          go_big_quiet_op
          refine hK _ ?_
          clear hK K
          refine Wqs.want (by kernel_rfl) (fun K hK => ?_)
          go_big_quiet_op
          refine hK _ ?_
          clear hK K
          refine Wqs.want (by kernel_rfl) (fun K hK => ?_)
          go_big_quiet_op
          refine hK _ ?_
          clear hK K
          refine Wqs.want (by kernel_rfl) (fun K hK => ?_)
          go_big_quiet_op
          refine hK _ ?_
          clear hK K
          refine Wqs.want (by kernel_rfl) (fun K hK => ?_)
          go_big_quiet_op
          refine hK _ ?_
          clear hK K
          refine Wqs.load (by kernel_rfl) 41 _ rfl ⟨gr, 0, none⟩ rfl (runsC rs) _ (fun w' ⟨pw, e⟩ => by rw [e]; exact seg (H1.out.by pw) 0 0 rfl _ (by simp)) Tryd.underlying41 rfl IR ?_
          dsimp only [Act.put]
          simp only [List.setIfInBounds_toArray, List.set_cons_zero, List.set_cons_succ]
          refine Wqs.want (by kernel_rfl) (fun K hK => ?_)
          go_big_quiet_op
          apply Exists.intro
          refine ⟨fun _ => ?_, ?_⟩
          · (go_at_call 20; with_reducible exact QB.call_of (Nat.le_refl _) (fun b => GR.out _))
          refine hK _ ?_
          clear hK K
          refine Wqs.want (by kernel_rfl) (fun K hK => ?_)
          go_big_quiet_op
          refine hK _ ?_
          clear hK K
          refine Wqs.want (by kernel_rfl) (fun K hK => ?_)
          go_big_quiet_op
          refine hK _ ?_
          clear hK K
          refine Wqs.want (by kernel_rfl) (fun K hK => ?_)
          go_big_quiet_op
          refine hK _ ?_
          clear hK K
          refine Wqs.nil ?_
          intro _ hw'
          obtain ⟨pq, rfl⟩ := hw'
          have HB2 := Lib.hid (HB.out.trans (pq.below.mono HB.out.size))
          generalize pq.world = vp at HB2 ⊢
          clear q5 q6 c0 c1 cb
          go_wp2
          go_roundw
          case rel => exact ⟨q + 1, by omega, by go_num, by rw [HO.out], HB2.out⟩
          case measure => simp [intOf]; omega
    · have g1 : ¬ (q : Int) < (bl : Int) := by omega
      rw [h1, ← HL.out]
      rw [h1] at g1
      clear h1 h2 hq
      go_wp2
      go_ret
      exact ⟨rfl, H0.out.bel.trans (HB.out.mono H0.out.bel.size)⟩
    · have g1 : (q : Int) < (bl : Int) := by omega
      have g2 : ¬ (q : Int) < 4 := by omega
      rw [h1, ← HL.out]
      rw [h1] at g1 g2
      clear h1 h2 hq h3
      go_wp2
      go_ret
      exact ⟨rfl, H0.out.bel.trans (HB.out.mono H0.out.bel.size)⟩
end Tr
namespace Tr
attribute [local go_sem] Oper.semAt_some
open Go Go.ChangeShapes Go.WideShapes Go.ChangeAt Go.RowKit
open Tab Flat TabArg QL Ru Rg PlanM
theorem low_or (s t : Int) : SetM.low (bits .or .i64 s t) = SetM.low s ||| SetM.low t := by
  show SetM.low (IntKind.i64.wrap ((BitVec.ofInt 64 s ||| BitVec.ofInt 64 t).toNat : Nat)) = _
  rw [SetM.low_wrap, BitVec.toNat_or, ← SetM.toNat_low s, ← SetM.toNat_low t]
  have h2 : ((BitVec.ofInt 64 s).toNat ||| (BitVec.ofInt 64 t).toNat) % 2 ^ 8 = _ := Nat.or_mod_two_pow
  exact h2
theorem low_and (s t : Int) : SetM.low (bits .and .i64 s t) = SetM.low s &&& SetM.low t := by
  show SetM.low (IntKind.i64.wrap ((BitVec.ofInt 64 s &&& BitVec.ofInt 64 t).toNat : Nat)) = _
  rw [SetM.low_wrap, BitVec.toNat_and, ← SetM.toNat_low s, ← SetM.toNat_low t]
  have h2 : ((BitVec.ofInt 64 s).toNat &&& (BitVec.ofInt 64 t).toNat) % 2 ^ 8 = _ := Nat.and_mod_two_pow
  exact h2
theorem has_or (s t q : Int) : SetM.has (bits .or .i64 s t) q = (SetM.has s q || SetM.has t q) := by
  unfold SetM.has
  rw [low_or, Nat.testBit_or]
  cases decide (0 ≤ q) <;> simp
theorem has_and (s t q : Int) : SetM.has (bits .and .i64 s t) q = (SetM.has s q && SetM.has t q) := by
  unfold SetM.has
  rw [low_and, Nat.testBit_and]
  cases decide (0 ≤ q) <;> simp
theorem has_zero (q : Int) : SetM.has 0 q = false := by
  unfold SetM.has
  rw [show SetM.low 0 = 0 from rfl, Nat.zero_testBit, Bool.and_false]
theorem has_lt {s q : Int} (h : SetM.has s q = true) : 0 ≤ q ∧ q < 8 := SetM.list_bd s q ((SetM.mem_list s q).2 h)
theorem has_aS (bu : List Bs) (l : List Nat) (q : Int) : SetM.has (aS bu l) q = l.any fun k => SetM.has (busAt bu k).set q := by
  have key : ∀ (l : List Nat) (m : Int), SetM.has (l.foldl (fun m k => bits .or .i64 m (busAt bu k).set) m) q = (SetM.has m q || l.any fun k => SetM.has (busAt bu k).set q) := by
    intro l
    induction l with
    | nil => intro m; simp
    | cons k l ih =>
      intro m
      rw [List.foldl_cons, ih, has_or, List.any_cons, Bool.or_assoc]
  unfold aS
  rw [key, has_zero, Bool.false_or]
theorem has_ofL (l : List Int) (q : Int) : SetM.has (SetM.of l : Nat) q = decide (q ∈ l ∧ 0 ≤ q ∧ q < 8) := by
  by_cases h0 : 0 ≤ q
  · obtain ⟨k, rfl⟩ := Int.eq_ofNat_of_zero_le h0
    rw [SetM.has_nat, SetM.low_nat _ (SetM.of_lt l), SetM.of_test]
    exact decide_eq_decide.2 ⟨fun ⟨h1, h2⟩ => ⟨h1, h0, by omega⟩, fun ⟨h1, _, h2⟩ => ⟨h1, by omega⟩⟩
  · rw [SetM.has_neg _ _ (by omega), decide_eq_false (fun h => h0 h.2.1)]
theorem has_fZ (f : Int → Bool) (s q : Int) : SetM.has (fZ f (SetM.list s) : Nat) q = (SetM.has s q && f q) := by
  unfold fZ
  rw [has_ofL]
  cases hq : SetM.has s q
  · rw [Bool.false_and]
    refine decide_eq_false fun ⟨h1, _⟩ => ?_
    have := (SetM.mem_list s q).1 (List.mem_filter.1 h1).1
    rw [hq] at this; cases this
  · rw [Bool.true_and]
    cases hf : f q
    · exact decide_eq_false fun ⟨h1, _⟩ => by have := (List.mem_filter.1 h1).2; rw [hf] at this; cases this
    · exact decide_eq_true ⟨List.mem_filter.2 ⟨(SetM.mem_list s q).2 hq, hf⟩, has_lt hq⟩
/-- The inner loop of the document's Hold. -/
def hIn (c : Int → Bool) (l : List Int) (n : Nat) : Nat := l.foldl (fun n p => if c p then SetM.withN (n : Nat) p else n) n
theorem hIn_snoc (c : Int → Bool) (l : List Int) (n : Nat) (p : Int) : hIn c (l ++ [p]) n = if c p then SetM.withN (hIn c l n : Nat) p else hIn c l n := by unfold hIn; rw [List.foldl_append]; rfl
theorem has_hIn {c : Int → Bool} {q : Int} : ∀ {l : List Int} {n : Nat}, (∀ p ∈ l, 0 ≤ p ∧ p < 8) → SetM.has (hIn c l n : Nat) q = (SetM.has (n : Nat) q || decide (q ∈ l ∧ c q = true))
  | [], n, _ => by simp [hIn]
  | p :: l, n, h => by
    have hl : ∀ p ∈ l, 0 ≤ p ∧ p < 8 := fun x hx => h x (List.mem_cons_of_mem _ hx)
    have hp := h p (List.mem_cons_self ..)
    show SetM.has (hIn c l (if c p then SetM.withN (n : Nat) p else n) : Nat) q = _
    rw [has_hIn hl]
    have hb : (SetM.bit p != 0) = true := by
      obtain ⟨k, rfl⟩ := Int.eq_ofNat_of_zero_le hp.1
      rw [SetM.bit_in k (by omega)]
      have : 0 < 2 ^ k := Nat.pow_pos (by decide)
      exact bne_iff_ne.2 (by omega)
    cases hc : c p
    · simp only [Bool.false_eq_true, if_false]
      congr 1
      by_cases hq : q = p
      · subst hq; simp [hc]
      · simp [hq]
    · simp only [if_true]
      rw [SetM.has_with, hb, Bool.true_and, Bool.or_assoc]
      congr 1
      by_cases hq : q = p
      · subst hq; simp [hc]
      · simp [hq]
theorem hIn_lt (c : Int → Bool) : ∀ (l : List Int) (n : Nat), n < 256 → hIn c l n < 256
  | [], n, h => h
  | p :: l, n, h => by
    show hIn c l (if c p then SetM.withN (n : Nat) p else n) < 256
    refine hIn_lt c l _ ?_
    split
    · exact SetM.with_lt _ _
    · exact h
/-- The outer loop of the document's Hold. -/
def hOut (bu : List Bs) (live gn : Int) (f : Int → Bool) (l : List Nat) : Nat := l.foldl (fun n (k : Nat) => hIn (fun p => SetM.has live k && f p) (SetM.list (bits .and .i64 (busAt bu k).set gn)) n) 0
theorem hOut_snoc (bu : List Bs) (live gn : Int) (f : Int → Bool) (l : List Nat) (k : Nat) : hOut bu live gn f (l ++ [k]) = hIn (fun p => SetM.has live k && f p) (SetM.list (bits .and .i64 (busAt bu k).set gn)) (hOut bu live gn f l) := by unfold hOut; rw [List.foldl_append]; rfl
theorem hOut_has (bu : List Bs) (live gn : Int) (f : Int → Bool) (q : Int) (l : List Nat) : hOut bu live gn f l < 256 ∧ SetM.has (hOut bu live gn f l : Nat) q = (f q && (SetM.has gn q && l.any fun k => SetM.has live k && SetM.has (busAt bu k).set q)) := by
  have key : ∀ (l : List Nat) (n : Nat), n < 256 → l.foldl (fun n (k : Nat) => hIn (fun p => SetM.has live k && f p) (SetM.list (bits .and .i64 (busAt bu k).set gn)) n) n < 256 ∧ SetM.has (l.foldl (fun n (k : Nat) => hIn (fun p => SetM.has live k && f p) (SetM.list (bits .and .i64 (busAt bu k).set gn)) n) n : Nat) q = (SetM.has (n : Nat) q || (f q && (SetM.has gn q && l.any fun k => SetM.has live k && SetM.has (busAt bu k).set q))) := by
    intro l
    induction l with
    | nil => intro n hn; exact ⟨hn, by simp⟩
    | cons k l ih =>
      intro n hn
      rw [List.foldl_cons]
      obtain ⟨h1, h2⟩ := ih _ (hIn_lt (fun p => SetM.has live k && f p) (SetM.list (bits .and .i64 (busAt bu k).set gn)) n hn)
      refine ⟨h1, ?_⟩
      rw [h2, has_hIn (fun p hp => SetM.list_bd _ p hp), List.any_cons]
      have e : decide (q ∈ SetM.list (bits .and .i64 (busAt bu k).set gn) ∧ (SetM.has live k && f q) = true) = (SetM.has (busAt bu k).set q && SetM.has gn q && (SetM.has live k && f q)) := by
        rw [← has_and]
        cases h : SetM.has (bits .and .i64 (busAt bu k).set gn) q
        · exact decide_eq_false fun hh => by have := (SetM.mem_list _ q).1 hh.1; rw [h] at this; cases this
        · rw [Bool.true_and]
          cases h2 : (SetM.has live k && f q)
          · exact decide_eq_false fun hh => by cases hh.2
          · exact decide_eq_true ⟨(SetM.mem_list _ q).2 h, rfl⟩
      rw [e]
      cases SetM.has (n : Nat) q <;> cases SetM.has (busAt bu k).set q <;> cases SetM.has gn q <;> cases SetM.has live k <;> cases f q <;> simp
  obtain ⟨h1, h2⟩ := key l 0 (by decide)
  refine ⟨h1, ?_⟩
  unfold hOut
  rw [h2, show ((0 : Nat) : Int) = 0 from rfl, has_zero, Bool.false_or]
theorem hold_fold (bu : List Bs) (live gn : Int) (f : Int → Bool) : fZ f (SetM.list (bits .and .i64 (aS bu (eL live bu)) gn)) = hOut bu live gn f (List.range (nB bu)) := by
  refine SetM.has_ext (SetM.of_lt _) (hOut_has bu live gn f 0 _).1 fun q => ?_
  rw [has_fZ, has_and, has_aS, (hOut_has bu live gn f q _).2, eL_range, List.any_filter]
  cases f q <;> cases SetM.has gn q <;> simp
end Tr
namespace Tr
attribute [local go_sem] Oper.semAt_some
open Go Go.ChangeShapes Go.WideShapes Go.ChangeAt Go.RowKit
open Held
open Tab Flat TabArg QL Ru Rg PlanM
theorem rhold_any (T : Tab) (hd : Hd) (s : Rid) (rs : List Ru) (ask : Int) (w : World) (ht : IsTab w hd T) (h8 : rs.length = 8) : Calls Tryd.prog 13 #[.agg (T.cells hd).toArray, .agg s.cells.toArray, .agg (runsC rs).toArray, .int .i64 ask] w fun e w' => e = .returned (.int .i64 (holdS T s rs ask : Nat)) ∧ Below w.heap.size w w' := by
  have h1 : (T.cells hd).length = 131 := by have := (cells_ok ht).size; rwa [List.size_toArray] at this
  have IA : (Tryd.prog.info? 31).map (·.size) = some (T.cells hd).length := by rw [h1]; exact May.infoT
  have IR : (Tryd.prog.info? 41).map (·.size) = some (runsC rs).length := by rw [runs_len, h8]; exact infoRs
  obtain ⟨gn, hgn⟩ : ∃ g : Int, (thS grB rs : Nat) = g := ⟨_, rfl⟩
  have GR : Hid (∀ W, Calls Tryd.prog 20 #[.agg (runsC rs).toArray] W fun e w' => e = .returned (.int .i64 gn) ∧ Below W.heap.size W w') := Lib.hid (fun W => by rw [← hgn]; exact rgreen_any rs h8 W)
  obtain ⟨live, hlive⟩ : ∃ l : Int, (liveS T s ask : Nat) = l := ⟨_, rfl⟩
  have LV : Hid (∀ W, Below w.heap.size w W → Calls Tryd.prog 11 #[.agg (T.cells hd).toArray, .agg s.cells.toArray, .int .i64 ask] W fun e w' => e = .returned (.int .i64 live) ∧ Below W.heap.size W w') := Lib.hid (fun W hb => by rw [← hlive]; exact rlive_any T hd s ask W (ht.below hb))
  obtain ⟨f, hf⟩ : ∃ f : Int → Bool, f = fun p => decide ((ruAt rs p).ex < T.extend) := ⟨_, rfl⟩
  have FE : Hid (∀ p : Int, f p = decide ((ruAt rs p).ex < T.extend)) := Lib.hid (fun p => by rw [hf])
  have HL : Hid (holdS T s rs ask = if T.budget ≤ s.sp then 0 else hOut T.buses live gn f (List.range (nB T.buses))) := Lib.hid (by
    unfold holdS
    rw [hgn, hlive, ← hf, hold_fold])
  generalize holdS T s rs ask = res at HL ⊢
  clear hf hgn hlive
  have NW : Hid (∀ q, q ≤ nB T.buses → (q < T.buses.length ∧ q < 4 ∧ q < nB T.buses) ∨ (q = nB T.buses ∧ ¬ q < T.buses.length) ∨ (q = nB T.buses ∧ q < T.buses.length ∧ q = 4)) := Lib.hid (fun q h => nB_way h)
  have hcb := tab_bu ht
  have BUS : Hid (∀ q, q < T.buses.length → ∀ W, Below w.heap.size w W → ∃ x, hd.b.a = some x ∧ W.cell? (x.add (q * 2)) = some (I (busAt T.buses q).set) ∧ W.cell? ⟨(x.add (q * 2)).block, (x.add (q * 2)).off + 1, none⟩ = some (I (busAt T.buses q).lock)) := Lib.hid (fun q hq W hb => by
    obtain ⟨x, h1, h2⟩ := (ht.below hb).buses.at (bus_at hq)
    have c0 := h2 0 _ rfl
    have c1 := h2 1 _ rfl
    rw [Tab.add_zero] at c0
    rw [Tab.add_one] at c1
    exact ⟨x, h1, c0, c1⟩)
  have KX0 : Hid (∀ p : Nat, p < 8 → (runsC rs)[p * 12 + 6]? = some (I (ruAt rs p).ex)) := Lib.hid (fun p hp => runs_at h8 hp rfl)
  have hex := tab_ex ht
  have hbd := tab_bd ht
  generalize nB T.buses = m at *
  generalize hbl : T.buses.length = bl at *
  clear hbl
  have hn0 := Blk.Bks.nil w
  have hn1 := hn0.alloc (T.cells hd).toArray 31
  have hn2 := hn1.alloc s.cells.toArray 34
  rw [show (w.alloc (.cells (T.cells hd).toArray 31)).heap.size = w.heap.size + 1 by simp] at hn2
  have hn3 := hn2.alloc (runsC rs).toArray 41
  rw [show ((w.alloc (.cells (T.cells hd).toArray 31)).alloc (.cells s.cells.toArray 34)).heap.size = w.heap.size + 1 + 1 by simp] at hn3
  clear hn0
  clear hn1
  clear hn2
  go_enter Tryd.func13, Tryd.ntmps13
  go_upto_region 1 with fail
  generalize World.alloc (World.alloc (World.alloc w _) _) _ = va at hn3 ⊢
  generalize hg2 : w.heap.size + 1 + 1 = gr at hn3 ⊢
  generalize hg1 : w.heap.size + 1 = gs at hn3 ⊢
  generalize hg0 : w.heap.size = gt at hn3 ⊢
  clear hg0 hg1 hg2
  have H0 := Lib.hid hn3
  clear hn3
  have KB : Hid (∀ W, Below va.heap.size va W → W.cell? ⟨gt, 115, none⟩ = some (.slice hd.b.a bl hd.b.cap)) := Lib.hid (fun W hb => (H0.out.step hb).cell 2 115 rfl (by rw [List.getElem?_toArray]; exact hcb))
  have KE : Hid (∀ W, Below va.heap.size va W → W.cell? ⟨gt, 116, none⟩ = some (I T.extend)) := Lib.hid (fun W hb => (H0.out.step hb).cell 2 116 rfl (by rw [List.getElem?_toArray]; exact hex))
  have KX : Hid (∀ W, Below va.heap.size va W → ∀ p : Nat, p < 8 → W.cell? ⟨gr, p * 12 + 6, none⟩ = some (I (ruAt rs p).ex)) := Lib.hid (fun W hb p hp => (H0.out.step hb).cell 0 (p * 12 + 6) rfl (by rw [List.getElem?_toArray]; exact KX0.out p hp))
  have HV := Lib.hid H0.out.bel
  have k5 : va.cell? ⟨gs, 5, none⟩ = some (I s.sp) := H0.out.cell 1 5 rfl rfl
  have k7 : va.cell? ⟨gt, 117, none⟩ = some (I T.budget) := H0.out.cell 2 117 rfl (by rw [List.getElem?_toArray]; exact hbd)
  clear hcb hex hbd KX0
  by_cases hb : T.budget ≤ s.sp
  · replace HL := Lib.hid (HL.out.trans (if_pos hb))
    go_wp2
    go_ret
    exact ⟨by rw [HL.out]; rfl, H0.out.bel⟩
  replace HL := Lib.hid (HL.out.trans (if_neg hb))
  go_wp2
  clear k5 k7 hb
  go_loopw [9, 10] (fun n k wr => ∃ q : Nat, q ≤ m ∧ k = .int .i64 q ∧ n = .int .i64 (hOut T.buses live gn f (List.range q) : Nat) ∧ Below va.heap.size va wr) (fun _ k _ => m - (intOf k).toNat)
  case atStart => exact ⟨0, Nat.zero_le _, rfl, rfl, Below.refl _ _⟩
  case round =>
    obtain ⟨q, hq, rfl, rfl, hbel⟩ := hrel
    have HB := Lib.hid hbel
    have cb := KB.out wr hbel
    clear hbel
    rcases NW.out q hq with ⟨h1, h2, h3⟩ | ⟨h1, h2⟩ | ⟨h1, h2, h3⟩
    · have g1 : (q : Int) < (bl : Int) := by omega
      have g2 : (q : Int) < 4 := by omega
      have HS : Hid (hOut T.buses live gn f (List.range (q + 1)) = hIn (fun p => SetM.has live q && f p) (SetM.list (bits .and .i64 (busAt T.buses q).set gn)) (hOut T.buses live gn f (List.range q))) := Lib.hid (by rw [List.range_succ, hOut_snoc])
      obtain ⟨x, hx, c0, c1⟩ := BUS.out q h1 wr (HV.out.trans (HB.out.mono HV.out.size))
      rw [hx] at cb
      have H1 := Lib.hid (H0.out.step HB.out)
      have q5 : ∀ y : QB.By wr.heap.size wr, y.world.cell? ⟨gt, 115, none⟩ = some (.slice (some x) bl hd.b.cap) := fun y => (y.below.cell (World.block_lt_of_cell? wr _ cb)).trans cb
      have q6 : ∀ y : QB.By wr.heap.size wr, y.world.cell? (x.add (q * 2)) = some (I (busAt T.buses q).set) := fun y => (y.below.cell (World.block_lt_of_cell? wr _ c0)).trans c0
      obtain ⟨bb, hbb⟩ : ∃ b, SetM.has live q = b := ⟨_, rfl⟩
      have HB1 := Lib.hid (fun w => rbit_is (show q < 8 by omega) hbb w)
      rw [hbb] at HS
      clear hbb
      generalize hOut T.buses live gn f (List.range q) = n0 at HS ⊢
      go_upto_region 7 with fail
      obtain ⟨s2, hs2⟩ : ∃ x, bits .and .i64 (busAt T.buses q).set gn = x := ⟨_, rfl⟩
      rw [hs2] at HS
      refine wp_region_held (S := fun w' => Below wr.heap.size wr w') (by kernel_rfl) ?_
      have hS : Below wr.heap.size wr { wr with drawn := wr.drawn + 1 } := (Below.refl _ _).drew
      have HA := Lib.hid (H1.out.step hS)
      generalize ({ wr with drawn := wr.drawn + 1 } : World) = v at hS HA ⊢
      refine Held.take (i := 0) (some 29) rfl (v := ?_) rfl (by kernel_rfl) (by kernel_rfl) (by kernel_rfl) (fun _ _ _ h => h) (Or.inl ⟨by rfl, ?_⟩) hS ?_
      rotate_left
      · intro w' hw'
        go_simp
        try with_reducible rfl
      (try dsimp only [Act.put]); (try simp only [List.setIfInBounds_toArray, List.set_cons_zero, List.set_cons_succ])
      refine Held.take (i := 1) (some 30) rfl (v := ?_) rfl (by kernel_rfl) (by kernel_rfl) (by kernel_rfl) (fun _ _ _ h => h) (Or.inl ⟨by rfl, ?_⟩) hS ?_
      rotate_left
      · intro w' hw'
        have k5 := (hw'.cell (World.block_lt_of_cell? wr _ cb)).trans cb
        go_simp
        try with_reducible rfl
      (try dsimp only [Act.put]); (try simp only [List.setIfInBounds_toArray, List.set_cons_zero, List.set_cons_succ])
      refine Held.take (i := 2) (some 31) rfl (v := ?_) rfl (by kernel_rfl) (by kernel_rfl) (by kernel_rfl) (fun _ _ _ h => h) (Or.inl ⟨by rfl, ?_⟩) hS ?_
      rotate_left
      · intro w' hw'
        go_simp
        try with_reducible rfl
      (try dsimp only [Act.put]); (try simp only [List.setIfInBounds_toArray, List.set_cons_zero, List.set_cons_succ])
      refine Held.take (i := 3) (some 32) rfl (v := ?_) rfl (by kernel_rfl) (by kernel_rfl) (by kernel_rfl) (fun _ _ _ h => h) (Or.inl ⟨by rfl, ?_⟩) hS ?_
      rotate_left
      · intro w' hw'
        go_simp
        try with_reducible rfl
      (try dsimp only [Act.put]); (try simp only [List.setIfInBounds_toArray, List.set_cons_zero, List.set_cons_succ])
      refine Held.take (i := 4) (some 33) rfl (v := ?_) rfl (by kernel_rfl) (by kernel_rfl) (by kernel_rfl) (fun _ _ _ h => h) (Or.inl ⟨by rfl, ?_⟩) hS ?_
      rotate_left
      · intro w' hw'
        go_simp
        try with_reducible rfl
      (try dsimp only [Act.put]); (try simp only [List.setIfInBounds_toArray, List.set_cons_zero, List.set_cons_succ])
      refine Held.take (i := 5) (some 34) rfl (v := ?_) rfl (by kernel_rfl) (by kernel_rfl) (by kernel_rfl) (fun _ _ _ h => h) (Or.inl ⟨by rfl, ?_⟩) hS ?_
      rotate_left
      · intro w' hw'
        have k6 := (hw'.cell (World.block_lt_of_cell? wr _ c0)).trans c0
        go_simp
        try with_reducible rfl
      (try dsimp only [Act.put]); (try simp only [List.setIfInBounds_toArray, List.set_cons_zero, List.set_cons_succ])
      refine Held.take_load (i := 6) (some 35) rfl 41 (.tmp 6) ⟨gr, 0, none⟩ (runsC rs) _ rfl rfl (by kernel_rfl) (by kernel_rfl) (by kernel_rfl) (fun _ _ _ h => h) (by rfl) hS rfl (fun w' hw' => by have := (H1.out.step hw').lies 0 rfl; simpa using this) Tryd.underlying41 rfl IR ?_
      (try dsimp only [Act.put]); (try simp only [List.setIfInBounds_toArray, List.set_cons_zero, List.set_cons_succ])
      refine Held.take (i := 11) (some 40) rfl (v := ?_) rfl (by kernel_rfl) (by kernel_rfl) (by kernel_rfl) (fun _ _ _ h => h) (Or.inl ⟨by rfl, ?_⟩) hS ?_
      rotate_left
      · intro w' hw'
        go_simp
        try with_reducible rfl
      (try dsimp only [Act.put]); (try simp only [List.setIfInBounds_toArray, List.set_cons_zero, List.set_cons_succ])
      refine wpAnyH_ready (rs := [7]) (by kernel_rfl) (by simp) (AllReadyH.cons rfl (fun K hK => ?_) AllReadyH.nil)
      go_simp
      refine (GR.out _).mono ?_
      rintro e vn ⟨rfl, hb⟩
      have hq := hS.trans (hb.mono hS.size)
      have HA2 := Lib.hid (HA.out.step hb)
      clear hS hb HA
      have HA := HA2
      clear HA2
      go_simp
      refine hK.out _ _ hq (fun hS => ?_)
      clear hK K hq
      rename World => v
      (try dsimp only [Act.put]); (try simp only [List.setIfInBounds_toArray, List.set_cons_zero, List.set_cons_succ])
      refine Held.take (i := 8) (some 37) rfl (v := (.int .i64 s2)) rfl (by kernel_rfl) (by kernel_rfl) (by kernel_rfl) (fun _ _ _ h => h) (Or.inl ⟨by rfl, ?_⟩) hS ?_
      · intro w' hw'
        rw [← hs2]
        go_simp
        try with_reducible rfl
      (try dsimp only [Act.put]); (try simp only [List.setIfInBounds_toArray, List.set_cons_zero, List.set_cons_succ])
      refine wpAnyH_ready (rs := [9]) (by kernel_rfl) (by simp) (AllReadyH.cons rfl (fun K hK => ?_) AllReadyH.nil)
      go_simp
      refine (RefS.rlist_any s2 _).mono ?_
      rintro e vn ⟨v0', rfl, hown, hb⟩
      have hq := hS.trans (hb.mono hS.size)
      have HA2 := Lib.hid (HA.out.step hb)
      clear hS hb HA
      have HA := HA2
      clear HA2
      go_simp
      refine hK.out _ _ hq (fun hS => ?_)
      clear hK K hq
      rename World => v
      (try dsimp only [Act.put]); (try simp only [List.setIfInBounds_toArray, List.set_cons_zero, List.set_cons_succ])
      obtain ⟨sa, sc, rfl, hrow⟩ := RefS.row_of hown
      refine Held.take (i := 10) (some 39) rfl (v := ?_) rfl (by kernel_rfl) (by kernel_rfl) (by kernel_rfl) (fun _ _ _ h => h) (Or.inl ⟨by rfl, ?_⟩) hS ?_
      rotate_left
      · intro w' hw'
        go_simp
        try with_reducible rfl
      (try dsimp only [Act.put]); (try simp only [List.setIfInBounds_toArray, List.set_cons_zero, List.set_cons_succ])
      refine wpAnyH_done (by kernel_rfl) ?_ _
      rename World => v6
      have HR := Lib.hid hrow
      have HB3 := Lib.hid (HB.out.trans (hS.mono HB.out.size))
      clear hrow hown hS HA q5 q6 c0 c1 cb H1
      have HM := Lib.hid (fun p hp => SetM.list_bd s2 p hp)
      have HN8 := Lib.hid (SetM.list_len s2)
      generalize SetM.list s2 = M at *
      go_wp2_with fail
      go_loopw [9, 40] (fun n j wr => ∃ i : Nat, i ≤ M.length ∧ j = .int .i64 i ∧ n = .int .i64 (hIn (fun p => bb && f p) (M.take i) n0 : Nat) ∧ Below v6.heap.size v6 wr) (fun _ j _ => M.length - (intOf j).toNat)
      case atStart => exact ⟨0, Nat.zero_le _, rfl, rfl, Below.refl _ _⟩
      case round =>
        obtain ⟨i, hi, rfl, rfl, hbel⟩ := hrel
        have HC := Lib.hid hbel
        have hm8 := HN8.out
        by_cases hlt : i < M.length
        · obtain ⟨y, hy, hc⟩ := (HR.out.below hbel).cells (show 0 < M.length by omega)
          obtain rfl : sa = some y := hy
          have hz := hc i hlt
          clear hc hbel
          have hMi : M[i]? = some (M.getD i 0) := by rw [List.getD_eq_getElem?_getD, List.getElem?_eq_getElem hlt]; rfl
          have hpm := HM.out (M.getD i 0) (List.mem_of_getElem? hMi)
          have TK : Hid (hIn (fun p => bb && f p) (M.take (i + 1)) n0 = if bb && f (M.getD i 0) then SetM.withN (hIn (fun p => bb && f p) (M.take i) n0 : Nat) (M.getD i 0) else hIn (fun p => bb && f p) (M.take i) n0) := Lib.hid (by rw [PlaceM.take_succ hMi, hIn_snoc])
          generalize M.getD i 0 = p at hz hpm TK
          clear hMi
          obtain ⟨j, rfl⟩ := Int.eq_ofNat_of_zero_le hpm.1
          have hj : j < 8 := by omega
          have hj8 : (j : Int) < 8 := hpm.2
          clear hpm
          generalize hIn (fun p => bb && f p) (M.take i) n0 = n1 at TK ⊢
          have HVW := Lib.hid (HB3.out.trans (HC.out.mono HB3.out.size))
          have H5 := Lib.hid (H0.out.step HVW.out)
          have HW := Lib.hid (HV.out.trans (HVW.out.mono HV.out.size))
          have cx := KX.out wr HVW.out j hj
          have ce := KE.out wr HVW.out
          go_upto_region 10 with fail
          have q0 : ∀ y : QB.By wr.heap.size wr, y.world.cell? ⟨gr, j * 12 + 6, none⟩ = some (I (ruAt rs j).ex) := fun y => (y.below.cell (World.block_lt_of_cell? wr _ cx)).trans cx
          have q1 : ∀ y : QB.By wr.heap.size wr, y.world.cell? ⟨gt, 116, none⟩ = some (I T.extend) := fun y => (y.below.cell (World.block_lt_of_cell? wr _ ce)).trans ce
          clear cx ce hz
          cases bb
          · replace TK := Lib.hid (TK.out.trans (if_neg (by simp)))
            refine QB.region_below wr.heap.size (by kernel_rfl) (by kernel_rfl) ?_
            refine Wqs.W.out ?_
            refine Wqs.load (by kernel_rfl) 31 _ rfl ⟨gt, 0, none⟩ rfl (T.cells hd) _ (fun w' ⟨pw, e⟩ => by rw [e]; exact seg (H5.out.by pw) 2 0 rfl _ (by simp)) Tryd.underlying31 rfl IA ?_
            dsimp only [Act.put]
            simp only [List.setIfInBounds_toArray, List.set_cons_zero, List.set_cons_succ]
            refine Wqs.load (by kernel_rfl) 34 _ rfl ⟨gs, 0, none⟩ rfl s.cells _ (fun w' ⟨pw, e⟩ => by rw [e]; exact seg (H5.out.by pw) 1 0 rfl _ rfl) Tryd.underlying34 rfl infoRd ?_
            dsimp only [Act.put]
            simp only [List.setIfInBounds_toArray, List.set_cons_zero, List.set_cons_succ]
            refine Wqs.want (by kernel_rfl) (fun K hK => ?_)
            go_big_quiet_op
            refine hK _ ?_
            clear hK K
            refine Wqs.want (by kernel_rfl) (fun K hK => ?_)
            go_big_quiet_op
            apply Exists.intro
            refine ⟨fun _ => ?_, ?_⟩
            · (go_at_call 11; with_reducible exact QB.call_of (Nat.le_refl _) (fun b => LV.out _ (HW.out.trans (b.mono HW.out.size))))
            refine hK _ ?_
            clear hK K
            refine Wqs.want (by kernel_rfl) (fun K hK => ?_)
            go_big_quiet_op
            refine hK _ ?_
            clear hK K
            refine Wqs.want (by kernel_rfl) (fun K hK => ?_)
            go_big_quiet_op
            apply Exists.intro
            refine ⟨fun _ => ?_, ?_⟩
            · (go_at_call 22; with_reducible exact QB.call_of (Nat.le_refl _) (fun b => (HB1.out _).mono fun e w' h => ⟨h.1, h.2 ▸ Below.refl _ _⟩))
            refine hK _ ?_
            clear hK K
            refine Wqs.want (by kernel_rfl) (fun K hK => ?_)
            go_big_quiet_op
            refine hK _ ?_
            clear hK K
            refine Wqs.skip (by kernel_rfl) ?_
            dsimp only [Act.put]
            simp only [List.setIfInBounds_toArray, List.set_cons_zero, List.set_cons_succ]
            refine Wqs.skip (by kernel_rfl) ?_
            dsimp only [Act.put]
            simp only [List.setIfInBounds_toArray, List.set_cons_zero, List.set_cons_succ]
            refine Wqs.skip (by kernel_rfl) ?_
            dsimp only [Act.put]
            simp only [List.setIfInBounds_toArray, List.set_cons_zero, List.set_cons_succ]
            refine Wqs.skip (by kernel_rfl) ?_
            dsimp only [Act.put]
            simp only [List.setIfInBounds_toArray, List.set_cons_zero, List.set_cons_succ]
            refine Wqs.skip (by kernel_rfl) ?_
            dsimp only [Act.put]
            simp only [List.setIfInBounds_toArray, List.set_cons_zero, List.set_cons_succ]
            refine Wqs.skip (by kernel_rfl) ?_
            dsimp only [Act.put]
            simp only [List.setIfInBounds_toArray, List.set_cons_zero, List.set_cons_succ]
            refine Wqs.skip (by kernel_rfl) ?_
            dsimp only [Act.put]
            simp only [List.setIfInBounds_toArray, List.set_cons_zero, List.set_cons_succ]
            refine Wqs.want (by kernel_rfl) (fun K hK => ?_)
            go_big_quiet_op
            refine hK _ ?_
            clear hK K
            refine Wqs.nil ?_
            intro _ hw'
            obtain ⟨pq, rfl⟩ := hw'
            have HC2 := Lib.hid (HC.out.trans (pq.below.mono HC.out.size))
            generalize pq.world = vq at HC2 ⊢
            clear q0 q1
            go_wp2
            go_roundw
            case rel => exact ⟨i + 1, by omega, by go_num, by rw [TK.out], HC2.out⟩
            case measure => simp [intOf]; omega
          · rw [Bool.true_and, FE.out] at TK
            by_cases hxe : (ruAt rs j).ex < T.extend
            · replace TK := Lib.hid (TK.out.trans (if_pos (decide_eq_true hxe)))
              have dx : decide ((ruAt rs j).ex < T.extend) = true := decide_eq_true hxe
              generalize (ruAt rs j).ex = xe at *
              refine QB.region_below wr.heap.size (by kernel_rfl) (by kernel_rfl) ?_
              refine Wqs.W.out ?_
              refine Wqs.load (by kernel_rfl) 31 _ rfl ⟨gt, 0, none⟩ rfl (T.cells hd) _ (fun w' ⟨pw, e⟩ => by rw [e]; exact seg (H5.out.by pw) 2 0 rfl _ (by simp)) Tryd.underlying31 rfl IA ?_
              dsimp only [Act.put]
              simp only [List.setIfInBounds_toArray, List.set_cons_zero, List.set_cons_succ]
              refine Wqs.load (by kernel_rfl) 34 _ rfl ⟨gs, 0, none⟩ rfl s.cells _ (fun w' ⟨pw, e⟩ => by rw [e]; exact seg (H5.out.by pw) 1 0 rfl _ rfl) Tryd.underlying34 rfl infoRd ?_
              dsimp only [Act.put]
              simp only [List.setIfInBounds_toArray, List.set_cons_zero, List.set_cons_succ]
              refine Wqs.want (by kernel_rfl) (fun K hK => ?_)
              go_big_quiet_op
              refine hK _ ?_
              clear hK K
              refine Wqs.want (by kernel_rfl) (fun K hK => ?_)
              go_big_quiet_op
              apply Exists.intro
              refine ⟨fun _ => ?_, ?_⟩
              · (go_at_call 11; with_reducible exact QB.call_of (Nat.le_refl _) (fun b => LV.out _ (HW.out.trans (b.mono HW.out.size))))
              refine hK _ ?_
              clear hK K
              refine Wqs.want (by kernel_rfl) (fun K hK => ?_)
              go_big_quiet_op
              refine hK _ ?_
              clear hK K
              refine Wqs.want (by kernel_rfl) (fun K hK => ?_)
              go_big_quiet_op
              apply Exists.intro
              refine ⟨fun _ => ?_, ?_⟩
              · (go_at_call 22; with_reducible exact QB.call_of (Nat.le_refl _) (fun b => (HB1.out _).mono fun e w' h => ⟨h.1, h.2 ▸ Below.refl _ _⟩))
              refine hK _ ?_
              clear hK K
              refine Wqs.want (by kernel_rfl) (fun K hK => ?_)
              go_big_quiet_op
              refine hK _ ?_
              clear hK K
              refine Wqs.want (by kernel_rfl) (fun K hK => ?_)
              go_big_quiet_op
              refine hK _ ?_
              clear hK K
              refine Wqs.want (by kernel_rfl) (fun K hK => ?_)
              go_big_quiet_op
              refine hK _ ?_
              clear hK K
              refine Wqs.want (by kernel_rfl) (fun K hK => ?_)
              go_big_quiet_op
              refine hK _ ?_
              clear hK K
              refine Wqs.want (by kernel_rfl) (fun K hK => ?_)
              go_big_quiet_op
              refine hK _ ?_
              clear hK K
              refine Wqs.want (by kernel_rfl) (fun K hK => ?_)
              go_big_quiet_op
              refine hK _ ?_
              clear hK K
              refine Wqs.want (by kernel_rfl) (fun K hK => ?_)
              go_big_quiet_op
              refine hK _ ?_
              clear hK K
              refine Wqs.want (by kernel_rfl) (fun K hK => ?_)
              go_big_quiet_op
              refine hK _ ?_
              clear hK K
              refine Wqs.want (by kernel_rfl) (fun K hK => ?_)
              go_big_quiet_op
              refine hK _ ?_
              clear hK K
              refine Wqs.nil ?_
              intro _ hw'
              obtain ⟨pq, rfl⟩ := hw'
              have HC2 := Lib.hid (HC.out.trans (pq.below.mono HC.out.size))
              generalize pq.world = vq at HC2 ⊢
              clear q0 q1
              go_wp2_with fail
              refine (RefS.rwith_any _ _ _).mono ?_
              rintro e vr ⟨rfl, br⟩
              have HC3 := Lib.hid (HC2.out.trans (br.mono HC2.out.size))
              clear br HC2
              go_wp2
              go_roundw
              case rel => exact ⟨i + 1, by omega, by go_num, by rw [TK.out], HC3.out⟩
              case measure => simp [intOf]; omega
            · replace TK := Lib.hid (TK.out.trans (if_neg (by rw [decide_eq_false hxe]; simp)))
              have dx : decide ((ruAt rs j).ex < T.extend) = false := decide_eq_false hxe
              generalize (ruAt rs j).ex = xe at *
              refine QB.region_below wr.heap.size (by kernel_rfl) (by kernel_rfl) ?_
              refine Wqs.W.out ?_
              refine Wqs.load (by kernel_rfl) 31 _ rfl ⟨gt, 0, none⟩ rfl (T.cells hd) _ (fun w' ⟨pw, e⟩ => by rw [e]; exact seg (H5.out.by pw) 2 0 rfl _ (by simp)) Tryd.underlying31 rfl IA ?_
              dsimp only [Act.put]
              simp only [List.setIfInBounds_toArray, List.set_cons_zero, List.set_cons_succ]
              refine Wqs.load (by kernel_rfl) 34 _ rfl ⟨gs, 0, none⟩ rfl s.cells _ (fun w' ⟨pw, e⟩ => by rw [e]; exact seg (H5.out.by pw) 1 0 rfl _ rfl) Tryd.underlying34 rfl infoRd ?_
              dsimp only [Act.put]
              simp only [List.setIfInBounds_toArray, List.set_cons_zero, List.set_cons_succ]
              refine Wqs.want (by kernel_rfl) (fun K hK => ?_)
              go_big_quiet_op
              refine hK _ ?_
              clear hK K
              refine Wqs.want (by kernel_rfl) (fun K hK => ?_)
              go_big_quiet_op
              apply Exists.intro
              refine ⟨fun _ => ?_, ?_⟩
              · (go_at_call 11; with_reducible exact QB.call_of (Nat.le_refl _) (fun b => LV.out _ (HW.out.trans (b.mono HW.out.size))))
              refine hK _ ?_
              clear hK K
              refine Wqs.want (by kernel_rfl) (fun K hK => ?_)
              go_big_quiet_op
              refine hK _ ?_
              clear hK K
              refine Wqs.want (by kernel_rfl) (fun K hK => ?_)
              go_big_quiet_op
              apply Exists.intro
              refine ⟨fun _ => ?_, ?_⟩
              · (go_at_call 22; with_reducible exact QB.call_of (Nat.le_refl _) (fun b => (HB1.out _).mono fun e w' h => ⟨h.1, h.2 ▸ Below.refl _ _⟩))
              refine hK _ ?_
              clear hK K
              refine Wqs.want (by kernel_rfl) (fun K hK => ?_)
              go_big_quiet_op
              refine hK _ ?_
              clear hK K
              refine Wqs.want (by kernel_rfl) (fun K hK => ?_)
              go_big_quiet_op
              refine hK _ ?_
              clear hK K
              refine Wqs.want (by kernel_rfl) (fun K hK => ?_)
              go_big_quiet_op
              refine hK _ ?_
              clear hK K
              refine Wqs.want (by kernel_rfl) (fun K hK => ?_)
              go_big_quiet_op
              refine hK _ ?_
              clear hK K
              refine Wqs.want (by kernel_rfl) (fun K hK => ?_)
              go_big_quiet_op
              refine hK _ ?_
              clear hK K
              refine Wqs.want (by kernel_rfl) (fun K hK => ?_)
              go_big_quiet_op
              refine hK _ ?_
              clear hK K
              refine Wqs.want (by kernel_rfl) (fun K hK => ?_)
              go_big_quiet_op
              refine hK _ ?_
              clear hK K
              refine Wqs.want (by kernel_rfl) (fun K hK => ?_)
              go_big_quiet_op
              refine hK _ ?_
              clear hK K
              refine Wqs.want (by kernel_rfl) (fun K hK => ?_)
              go_big_quiet_op
              refine hK _ ?_
              clear hK K
              refine Wqs.nil ?_
              intro _ hw'
              obtain ⟨pq, rfl⟩ := hw'
              have HC2 := Lib.hid (HC.out.trans (pq.below.mono HC.out.size))
              generalize pq.world = vq at HC2 ⊢
              clear q0 q1
              go_wp2
              go_roundw
              case rel => exact ⟨i + 1, by omega, by go_num, by rw [TK.out], HC2.out⟩
              case measure => simp [intOf]; omega
        · obtain rfl : i = M.length := by omega
          have e1 : hIn (fun p => bb && f p) (M.take M.length) n0 = hOut T.buses live gn f (List.range (q + 1)) := by rw [List.take_length]; exact HS.out.symm
          rw [e1]
          have HB4 := Lib.hid (HB3.out.trans (HC.out.mono HB3.out.size))
          clear e1 hbel
          go_wp2
          go_roundw
          case rel => exact ⟨q + 1, by omega, by go_num, rfl, HB4.out⟩
          case measure => simp [intOf]; omega
    · have g1 : ¬ (q : Int) < (bl : Int) := by omega
      rw [h1, ← HL.out]
      rw [h1] at g1
      clear h1 h2 hq
      go_wp2
      go_ret
      exact ⟨rfl, H0.out.bel.trans (HB.out.mono H0.out.bel.size)⟩
    · have g1 : (q : Int) < (bl : Int) := by omega
      have g2 : ¬ (q : Int) < 4 := by omega
      rw [h1, ← HL.out]
      rw [h1] at g1 g2
      clear h1 h2 hq h3
      go_wp2
      go_ret
      exact ⟨rfl, H0.out.bel.trans (HB.out.mono H0.out.bel.size)⟩
end Tr
end Go.Proofs.YtkccepdifgldeaaDoor
