/- TransitSteps returns true at any table, any state and any row of asking: Step of package transit goes from state to state as the document's own Ride does. No condition but what the card ties: math/bits' tables. -/
import Derived.Test.YtkccepdifgldeaaDoorRows
import Derived.Test.YtkccepdifgldeaaDoorTie
import Derived.Test.YtkccepdifgldeaaDoorCards
import Derived.Test.YtkccepdifgldeaaDoorPart02
import Derived.Test.YtkccepdifgldeaaDoorPart01
import Derived.Test.YtkccepdifgldeaaDoorPart03
import Derived.Deep.Cut
import Derived.LoopTactic
import Derived.BigQuiet
import Derived.Test.YtkccepdifgldeaaDoorPart04
import Derived.Deep.RegionHeld
import Derived.Test.YtkccepdifgldeaaDoorPart09
import Derived.WalkKit
import Derived.WalkLawsBesides
import Derived.ProofKit
import Derived.OpenShut
import Derived.ShutString
import Derived.ChangeOld
import Derived.Below
set_option linter.unusedVariables false
set_option linter.unusedSimpArgs false
set_option linter.unusedSectionVars false
set_option maxHeartbeats 8000000
set_option maxRecDepth 100000
namespace Go.Proofs.YtkccepdifgldeaaDoor
namespace transitSteps
open Go.ChangeShapes Go.WideShapes Go.ChangeAt Go.RowKit
open Tab Ru QL Rg PlanM Tr Held
theorem own : ownKnob Tryd.prog.godebug = none := by kernel_rfl
theorem laidOut : laidOutB Tryd.prog = true := by kernel_rfl
/-- WHAT THE WALK IS TOLD OF A SLICE OF INTEGERS THAT CAME IN: it is nil; or it leads to a row of 'cap' cells, the numbers 'zs' (the first 'len' are its elements, the rest its spare room), each fitting its kind. -/
def IsRow (k : IntKind) (w : World) (a : Option Addr) (len cap : Nat) (zs : List Int) : Prop :=
  (a = none ∧ len = 0 ∧ cap = 0 ∧ zs = []) ∨
  ∃ x, a = some x ∧ len ≤ cap ∧ cap ≤ maxLen ∧ zs.length = cap ∧ (∀ i, i < zs.length → w.cell? (x.add i) = some (.int k (zs.getD i 0))) ∧ ∀ n ∈ zs, (Lit.int k n).wf = true
theorem isRow_int {w : World} {a : Option Addr} {len cap : Nat} {zs : List Int} (h : IsRow .i64 w a len cap zs) : (zs.take len).length = len ∧ Tab.IntRow w ⟨a, cap⟩ (zs.take len) := by
  rcases h with ⟨rfl, rfl, rfl, rfl⟩ | ⟨x, rfl, h1, h2, h3, h4, _⟩
  · exact ⟨rfl, .inl ⟨rfl, rfl, rfl⟩⟩
  · have hl : (zs.take len).length = len := by rw [List.length_take]; omega
    refine ⟨hl, .inr ⟨x, rfl, by rw [hl]; exact h1, h2, fun i v hv j u hu => ?_⟩⟩
    have hi : i < len := by have := (List.getElem?_eq_some_iff.1 hv).1; omega
    match j, hu with
    | 0, hu =>
      simp at hu
      subst hu
      rw [List.getElem?_take, if_pos hi] at hv
      have := h4 i (by omega)
      rw [List.getD_eq_getElem?_getD, hv] at this
      rw [Nat.mul_one, Tab.add_two, Nat.add_zero]
      exact this
    | j + 1, hu => simp at hu
theorem row_cell {w : World} {a : Option Addr} {cap : Nat} {l : List Int} (h : Tab.IntRow w ⟨a, cap⟩ l) {j : Nat} (hj : j < l.length) : ∃ x, a = some x ∧ w.cell? (x.add j) = some (I (l.getD j 0)) := by
  have := h.at (i := j) (v := l.getD j 0) (by rw [List.getD_eq_getElem?_getD, List.getElem?_eq_getElem hj]; rfl)
  exact this
/-! ### the walk -/
theorem walk (T0 : Tab.Tab) (H0 : Tab.Hd) (x1 : Tr.Rid) (a2 : Option Addr) (len2 cap2 : Nat) (z2 : List Int) (w : World) (w0 : Tab.IsTab w H0 T0) (w2 : IsRow .i64 w a2 len2 cap2 z2) (db : Tr.DB w) :
    Calls Tryd.prog 4 #[.agg (T0.cells H0).toArray, .agg x1.cells.toArray, .slice a2 len2 cap2] w fun e w' => e = .returned (.bool true) ∧ Below w.heap.size w w' := by
  have h1 : (T0.cells H0).length = 131 := by have := (cells_ok w0).size; rwa [List.size_toArray] at this
  have IA : (Tryd.prog.info? 31).map (·.size) = some (T0.cells H0).length := by rw [h1]; exact May.infoT
  obtain ⟨hlen, hrow⟩ := isRow_int w2
  obtain ⟨L, hL⟩ : ∃ L, L = z2.take len2 := ⟨_, rfl⟩
  rw [← hL] at hlen hrow
  clear hL w2
  subst hlen
  have RW : Hid (∀ j : Nat, j < L.length → ∃ x, a2 = some x ∧ ∀ W, Below w.heap.size w W → W.cell? (x.add j) = some (I (L.getD j 0))) := Lib.hid (fun j hj => by
    obtain ⟨x, hx, hc⟩ := row_cell hrow hj
    exact ⟨x, hx, fun W hb => (hb.cell (World.block_lt_of_cell? w _ hc)).trans hc⟩)
  clear hrow
  have ST : Hid (∀ (r : Rid) (k : Int) (h d : Bool) W, Below w.heap.size w W → Calls Tryd.prog 16 #[.agg (T0.cells H0).toArray, .agg r.cells.toArray, .int .i64 k, .bool h, .bool d] W fun e w' => e = .returned (.agg (nextS T0 r k h d).cells.toArray) ∧ Below W.heap.size W w') := Lib.hid (fun r k h d W hb => step_any T0 H0 r k h d W (w0.below hb) (db.below hb))
  have RD : Hid (∀ (r : Rid) (k : Int) (h d : Bool) W, Below w.heap.size w W → Calls Tryd.prog 17 #[.agg (T0.cells H0).toArray, .agg r.cells.toArray, .int .i64 k, .bool h, .bool d] W fun e w' => e = .returned (.agg (nextS T0 r k h d).cells.toArray) ∧ Below W.heap.size W w') := Lib.hid (fun r k h d W hb => rride_any T0 H0 r k h d W (w0.below hb))
  have AW : Hid (∀ W, Below w.heap.size w W → Calls Tryd.prog 9 #[] W fun e w' => e = .returned (.bool true) ∧ Below W.heap.size W w') := Lib.hid (fun W hb => awake_any W (db.below hb))
  have LI : Hid (∀ W, Below w.heap.size w W → Calls Tryd.prog 8 #[.agg (T0.cells H0).toArray] W fun e w' => e = .returned (.bool (decide (T0.buses.length ≤ 8))) ∧ Below W.heap.size W w') := Lib.hid (fun W hb => light_any T0 H0 W (w0.below hb))
  clear w0 h1
  generalize T0.cells H0 = tc at *
  have hn0 := Blk.Bks.nil w
  have hn1 := hn0.alloc tc.toArray 31
  have hn2 := hn1.alloc x1.cells.toArray 34
  rw [show (w.alloc (.cells tc.toArray 31)).heap.size = w.heap.size + 1 by simp] at hn2
  clear hn0
  clear hn1
  go_enter Tryd.func4, Tryd.ntmps4
  go_upto_region 1 with fail
  generalize World.alloc (World.alloc w _) _ = v at hn2 ⊢
  generalize hg1 : w.heap.size + 1 = gs at hn2 ⊢
  generalize hg0 : w.heap.size = gt at hn2 ⊢
  clear hg0 hg1
  have HB := Lib.hid hn2
  clear hn2
  go_wp2_with (refine Row.wpList_load_g 31 _ rfl (by first | rfl | (go_simp; done) | fail) ⟨gt, 0, none⟩ rfl tc _ (by have := HB.out.lies 1 rfl; simpa using this) Tryd.underlying31 rfl IA ?_)
  refine (LI.out _ HB.out.bel).mono ?_
  rintro e v1 ⟨rfl, b1⟩
  have HC := Lib.hid (HB.out.step b1)
  clear b1 HB LI
  by_cases h8 : T0.buses.length ≤ 8
  rotate_left
  · rw [decide_eq_false h8]
    go_wp2_with fail
    refine (AW.out _ HC.out.bel).mono ?_
    rintro e w9 ⟨rfl, b9⟩
    go_wp2
    go_ret
    exact ⟨rfl, (HC.out.step b9).bel⟩
  rw [decide_eq_true h8]
  by_cases hn : 60 < L.length
  · have e1 : (60 : Int) < (L.length : Int) := by omega
    have e2 : ((L.length : Int) > 60) := e1
    go_wp2_with fail
    refine (AW.out _ HC.out.bel).mono ?_
    rintro e w9 ⟨rfl, b9⟩
    go_wp2
    go_ret
    exact ⟨rfl, (HC.out.step b9).bel⟩
  have e1 : ¬ (60 : Int) < (L.length : Int) := by omega
  have e2 : ¬ ((L.length : Int) > 60) := e1
  go_upto_region 3 with fail
  have LS : Hid (∀ W, Below v1.heap.size v1 W → Lies W ⟨gs, 0, none⟩ x1.cells) := Lib.hid (fun W hb => by have := (HC.out.step hb).lies 0 rfl; simpa using this)
  have HV := Lib.hid HC.out.bel
  clear h8
  go_cut [7, 8] from 21 to 22 (fun t7 t8 wx => ∃ ga gb, t7 = .pointer (some ⟨ga, 0, none⟩) ∧ t8 = .pointer (some ⟨gb, 0, none⟩) ∧ Blk.Bks w [(gb, x1.cells.toArray, 34), (ga, x1.cells.toArray, 34), (gs, x1.cells.toArray, 34), (gt, tc.toArray, 31)] wx)
  case first =>
    refine wp_region_held (S := fun w' => Below v1.heap.size v1 w') (by kernel_rfl) ?_
    have hS : Below v1.heap.size v1 { v1 with drawn := v1.drawn + 1 } := (Below.refl _ _).drew
    have HA := Lib.hid (HC.out.step hS)
    generalize ({ v1 with drawn := v1.drawn + 1 } : World) = v at hS HA ⊢
    refine Held.take_load (i := 0) (some 21) rfl 34 (.tmp 4) ⟨gs, 0, none⟩ x1.cells _ rfl rfl (by kernel_rfl) (by kernel_rfl) (by kernel_rfl) (fun _ _ _ h => h) (by rfl) hS rfl (fun w' hw' => LS.out w' hw') Tryd.underlying34 rfl infoRd ?_
    (try dsimp only [Act.put]); (try simp only [List.setIfInBounds_toArray, List.set_cons_zero, List.set_cons_succ])
    refine Held.take_load (i := 1) (some 22) rfl 34 (.tmp 4) ⟨gs, 0, none⟩ x1.cells _ rfl rfl (by kernel_rfl) (by kernel_rfl) (by kernel_rfl) (fun _ _ _ h => h) (by rfl) hS rfl (fun w' hw' => LS.out w' hw') Tryd.underlying34 rfl infoRd ?_
    (try dsimp only [Act.put]); (try simp only [List.setIfInBounds_toArray, List.set_cons_zero, List.set_cons_succ])
    refine wpAnyH_ready (rs := [2, 3]) (by kernel_rfl) (by simp) (AllReadyH.cons rfl (fun K hK => ?_) (AllReadyH.cons rfl (fun K hK => ?_) AllReadyH.nil))
    · go_simp
      have ha := HA.out.alloc #[I 0, I 0, I 0, I 0, I 0, I 0] 34
      have HGEga := Lib.hid hS.size
      have hq := hS.alloc hS.size (.cells #[I 0, I 0, I 0, I 0, I 0, I 0] 34)
      clear hS HA
      generalize v.heap.size = ga at ha HGEga ⊢
      generalize World.alloc v _ = va at ha hq ⊢
      have HA := Lib.hid ha
      clear ha
      refine hK.out _ _ hq (fun hS => ?_)
      clear hK K hq
      rename World => v
      (try dsimp only [Act.put]); (try simp only [List.setIfInBounds_toArray, List.set_cons_zero, List.set_cons_succ])
      refine wpAnyH_ready (rs := [3]) (by kernel_rfl) (by simp) (AllReadyH.cons rfl (fun K hK => ?_) AllReadyH.nil)
      go_simp
      have ha := HA.out.alloc #[I 0, I 0, I 0, I 0, I 0, I 0] 34
      have HGEgb := Lib.hid hS.size
      have hq := hS.alloc hS.size (.cells #[I 0, I 0, I 0, I 0, I 0, I 0] 34)
      clear hS HA
      generalize v.heap.size = gb at ha HGEgb ⊢
      generalize World.alloc v _ = va at ha hq ⊢
      have HA := Lib.hid ha
      clear ha
      refine hK.out _ _ hq (fun hS => ?_)
      clear hK K hq
      rename World => v
      (try dsimp only [Act.put]); (try simp only [List.setIfInBounds_toArray, List.set_cons_zero, List.set_cons_succ])
      refine wpAnyH_ready (rs := [4]) (by kernel_rfl) (by simp) (AllReadyH.cons rfl (fun K hK => ?_) AllReadyH.nil)
      rw [if_pos (by rfl)]
      refine wp_store_row 34 _ _ rfl ga x1.cells.toArray rfl rfl 34 _ (HA.out.at 1 rfl) infoRd rfl (one_rd _) ?_
      have hq := below_setRow hS (g := ga) HGEga.out x1.cells.toArray
      have hput := HA.out.put 1 rfl x1.cells.toArray
      simp only [List.set_cons_succ, List.set_cons_zero] at hput
      clear hS HA
      generalize World.setRow _ ga _ = vs at hput hq ⊢
      have HA := Lib.hid hput
      clear hput
      refine hK.out _ _ hq (fun hS => ?_)
      clear hK K hq
      rename World => v
      (try simp only [List.getElem_toArray, List.getElem_cons_succ, List.getElem_cons_zero])
      (try dsimp only [Act.put]); (try simp only [List.setIfInBounds_toArray, List.set_cons_zero, List.set_cons_succ])
      refine wpAnyH_ready (rs := [5]) (by kernel_rfl) (by simp) (AllReadyH.cons rfl (fun K hK => ?_) AllReadyH.nil)
      rw [if_pos (by rfl)]
      refine wp_store_row 34 _ _ rfl gb x1.cells.toArray rfl rfl 34 _ (HA.out.at 0 rfl) infoRd rfl (one_rd _) ?_
      have hq := below_setRow hS (g := gb) HGEgb.out x1.cells.toArray
      have hput := HA.out.put 0 rfl x1.cells.toArray
      simp only [List.set_cons_succ, List.set_cons_zero] at hput
      clear hS HA
      generalize World.setRow _ gb _ = vs at hput hq ⊢
      have HA := Lib.hid hput
      clear hput
      refine hK.out _ _ hq (fun hS => ?_)
      clear hK K hq
      rename World => v
      (try simp only [List.getElem_toArray, List.getElem_cons_succ, List.getElem_cons_zero])
      (try dsimp only [Act.put]); (try simp only [List.setIfInBounds_toArray, List.set_cons_zero, List.set_cons_succ])
      refine wpAnyH_done (by kernel_rfl) ?_ _
      go_wp2_with fail
      go_meet
      case rel => exact ⟨ga, gb, rfl, rfl, HA.out⟩
    · go_simp
      have ha := HA.out.alloc #[I 0, I 0, I 0, I 0, I 0, I 0] 34
      have HGEgb := Lib.hid hS.size
      have hq := hS.alloc hS.size (.cells #[I 0, I 0, I 0, I 0, I 0, I 0] 34)
      clear hS HA
      generalize v.heap.size = gb at ha HGEgb ⊢
      generalize World.alloc v _ = va at ha hq ⊢
      have HA := Lib.hid ha
      clear ha
      refine hK.out _ _ hq (fun hS => ?_)
      clear hK K hq
      rename World => v
      (try dsimp only [Act.put]); (try simp only [List.setIfInBounds_toArray, List.set_cons_zero, List.set_cons_succ])
      refine wpAnyH_ready (rs := [2]) (by kernel_rfl) (by simp) (AllReadyH.cons rfl (fun K hK => ?_) AllReadyH.nil)
      go_simp
      have ha := HA.out.alloc #[I 0, I 0, I 0, I 0, I 0, I 0] 34
      have HGEga := Lib.hid hS.size
      have hq := hS.alloc hS.size (.cells #[I 0, I 0, I 0, I 0, I 0, I 0] 34)
      clear hS HA
      generalize v.heap.size = ga at ha HGEga ⊢
      generalize World.alloc v _ = va at ha hq ⊢
      have HA := Lib.hid ha
      clear ha
      refine hK.out _ _ hq (fun hS => ?_)
      clear hK K hq
      rename World => v
      (try dsimp only [Act.put]); (try simp only [List.setIfInBounds_toArray, List.set_cons_zero, List.set_cons_succ])
      refine wpAnyH_ready (rs := [4]) (by kernel_rfl) (by simp) (AllReadyH.cons rfl (fun K hK => ?_) AllReadyH.nil)
      rw [if_pos (by rfl)]
      refine wp_store_row 34 _ _ rfl ga x1.cells.toArray rfl rfl 34 _ (HA.out.at 0 rfl) infoRd rfl (one_rd _) ?_
      have hq := below_setRow hS (g := ga) HGEga.out x1.cells.toArray
      have hput := HA.out.put 0 rfl x1.cells.toArray
      simp only [List.set_cons_succ, List.set_cons_zero] at hput
      clear hS HA
      generalize World.setRow _ ga _ = vs at hput hq ⊢
      have HA := Lib.hid hput
      clear hput
      refine hK.out _ _ hq (fun hS => ?_)
      clear hK K hq
      rename World => v
      (try simp only [List.getElem_toArray, List.getElem_cons_succ, List.getElem_cons_zero])
      (try dsimp only [Act.put]); (try simp only [List.setIfInBounds_toArray, List.set_cons_zero, List.set_cons_succ])
      refine wpAnyH_ready (rs := [5]) (by kernel_rfl) (by simp) (AllReadyH.cons rfl (fun K hK => ?_) AllReadyH.nil)
      rw [if_pos (by rfl)]
      refine wp_store_row 34 _ _ rfl gb x1.cells.toArray rfl rfl 34 _ (HA.out.at 1 rfl) infoRd rfl (one_rd _) ?_
      have hq := below_setRow hS (g := gb) HGEgb.out x1.cells.toArray
      have hput := HA.out.put 1 rfl x1.cells.toArray
      simp only [List.set_cons_succ, List.set_cons_zero] at hput
      clear hS HA
      generalize World.setRow _ gb _ = vs at hput hq ⊢
      have HA := Lib.hid hput
      clear hput
      refine hK.out _ _ hq (fun hS => ?_)
      clear hK K hq
      rename World => v
      (try simp only [List.getElem_toArray, List.getElem_cons_succ, List.getElem_cons_zero])
      (try dsimp only [Act.put]); (try simp only [List.setIfInBounds_toArray, List.set_cons_zero, List.set_cons_succ])
      refine wpAnyH_done (by kernel_rfl) ?_ _
      go_wp2_with fail
      go_meet
      case rel => exact ⟨ga, gb, rfl, rfl, HA.out.swap⟩
  case rest =>
  obtain ⟨ga, gb, rfl, rfl, hcut⟩ := hcut
  have H1 := Lib.hid hcut
  clear hcut HC LS HV
  rename World => wx
  go_wp2
  go_loopw [9] (fun i wr => ∃ (q : Nat) (r : Rid), q ≤ L.length ∧ i = .int .i64 q ∧ Blk.Bks w [(gb, r.cells.toArray, 34), (ga, r.cells.toArray, 34), (gs, x1.cells.toArray, 34), (gt, tc.toArray, 31)] wr) (fun i _ => L.length - (intOf i).toNat)
  case atStart => exact ⟨0, x1, by omega, rfl, H1.out⟩
  case round =>
    obtain ⟨q, r, hq, rfl, hB⟩ := hrel
    have HB := Lib.hid hB
    clear hB H1
    by_cases hlt : q < L.length
    · obtain ⟨x, hx, hc⟩ := RW.out q hlt
      obtain rfl : a2 = some x := hx
      generalize L.getD q 0 = ak at hc
      have HXC := Lib.hid hc
      clear hc
      have g1 : (q : Int) < (L.length : Int) := by omega
      have qa : ∀ y : QB.By wr.heap.size wr, y.world.cell? (x.add q) = some (I ak) := fun y => HXC.out _ (HB.out.by y).bel
      go_upto_region 7 with fail
      refine QB.region_below wr.heap.size (by kernel_rfl) (by kernel_rfl) ?_
      repeat (quiet_step (fail))
      refine wpQuiet_nil ?_
      intro _ hw'
      obtain ⟨pq, rfl⟩ := hw'
      have H2 := Lib.hid (HB.out.by pq)
      generalize pq.world = v2 at H2 ⊢
      obtain ⟨hld, hh⟩ : ∃ b, (bits .and .i64 (ak / 256) 1 == 1) = b := ⟨_, rfl⟩
      obtain ⟨rnd, hd⟩ : ∃ b, (bits .and .i64 (ak / 512) 7 == 1) = b := ⟨_, rfl⟩
      simp only [hh, hd]
      clear hh hd qa HB
      obtain ⟨N, hN⟩ : ∃ N, nextS T0 r ak hld rnd = N := ⟨_, rfl⟩
      have S1 : Hid (∀ W, Below w.heap.size w W → Calls Tryd.prog 16 #[.agg tc.toArray, .agg r.cells.toArray, .int .i64 ak, .bool hld, .bool rnd] W fun e w' => e = .returned (.agg N.cells.toArray) ∧ Below W.heap.size W w') := Lib.hid (fun W hb => by rw [← hN]; exact ST.out r ak hld rnd W hb)
      have S2 : Hid (∀ W, Below w.heap.size w W → Calls Tryd.prog 17 #[.agg tc.toArray, .agg r.cells.toArray, .int .i64 ak, .bool hld, .bool rnd] W fun e w' => e = .returned (.agg N.cells.toArray) ∧ Below W.heap.size W w') := Lib.hid (fun W hb => by rw [← hN]; exact RD.out r ak hld rnd W hb)
      clear hN
      go_upto_region 8 with fail
      have qa : ∀ y : QB.By v2.heap.size v2, y.world.cell? (x.add q) = some (I ak) := fun y => HXC.out _ (H2.out.by y).bel
      have HV := Lib.hid H2.out.bel
      refine QT.region v2.heap.size 9 (by kernel_rfl) (by kernel_rfl) ?_
      simp only [List.take_succ_cons, List.take_zero]
      repeat first
        | (refine wpQuiet_load rfl 31 _ rfl ⟨gt, 0, none⟩ rfl tc _ (fun w' ⟨pw, e⟩ => by rw [e]; exact (by have := (H2.out.by pw).lies 3 rfl; simpa using this)) Tryd.underlying31 rfl IA ?_
           dsimp only [Act.put]
           simp only [List.setIfInBounds_toArray, List.set_cons_zero, List.set_cons_succ])
        | (refine wpQuiet_load rfl 34 _ rfl ⟨ga, 0, none⟩ rfl r.cells _ (fun w' ⟨pw, e⟩ => by rw [e]; exact seg (H2.out.by pw) 1 0 rfl _ rfl) Tryd.underlying34 rfl infoRd ?_
           dsimp only [Act.put]
           simp only [List.setIfInBounds_toArray, List.set_cons_zero, List.set_cons_succ])
        | (quiet_step (first | (go_at_call 16; with_reducible exact QB.call_of (Nat.le_refl _) (fun b => S1.out _ (HV.out.trans (b.mono HV.out.size))))))
      refine wpQuiet_nil ?_
      intro _ hw'
      obtain ⟨pq, rfl⟩ := hw'
      have HP := Lib.hid (H2.out.by pq)
      generalize pq.world = vp at HP ⊢
      simp only [List.drop_succ_cons, List.drop_zero]
      clear qa H2 HV S1
      go_wp2_with (refine wpList_store_row rfl 34 _ _ rfl ga N.cells.toArray rfl rfl 34 _ (HP.out.at 1 rfl) infoRd rfl (one_rd _) ?_)
      have hput := HP.out.put 1 rfl N.cells.toArray
      simp only [List.set_cons_succ, List.set_cons_zero] at hput
      generalize World.setRow vp ga _ = v3 at hput ⊢
      have H3 := Lib.hid hput
      clear hput
      clear HP
      go_upto_region 9 with fail
      have qa : ∀ y : QB.By v3.heap.size v3, y.world.cell? (x.add q) = some (I ak) := fun y => HXC.out _ (H3.out.by y).bel
      have HV := Lib.hid H3.out.bel
      refine QT.region v3.heap.size 9 (by kernel_rfl) (by kernel_rfl) ?_
      simp only [List.take_succ_cons, List.take_zero]
      repeat first
        | (refine wpQuiet_load rfl 31 _ rfl ⟨gt, 0, none⟩ rfl tc _ (fun w' ⟨pw, e⟩ => by rw [e]; exact (by have := (H3.out.by pw).lies 3 rfl; simpa using this)) Tryd.underlying31 rfl IA ?_
           dsimp only [Act.put]
           simp only [List.setIfInBounds_toArray, List.set_cons_zero, List.set_cons_succ])
        | (refine wpQuiet_load rfl 34 _ rfl ⟨gb, 0, none⟩ rfl r.cells _ (fun w' ⟨pw, e⟩ => by rw [e]; exact seg (H3.out.by pw) 0 0 rfl _ rfl) Tryd.underlying34 rfl infoRd ?_
           dsimp only [Act.put]
           simp only [List.setIfInBounds_toArray, List.set_cons_zero, List.set_cons_succ])
        | (quiet_step (first | (go_at_call 17; with_reducible exact QB.call_of (Nat.le_refl _) (fun b => S2.out _ (HV.out.trans (b.mono HV.out.size))))))
      refine wpQuiet_nil ?_
      intro _ hw'
      obtain ⟨pq, rfl⟩ := hw'
      have HP := Lib.hid (H3.out.by pq)
      generalize pq.world = vp at HP ⊢
      simp only [List.drop_succ_cons, List.drop_zero]
      clear qa H3 HV S2
      go_upto_region 10 with (refine wpList_store_row rfl 34 _ _ rfl gb N.cells.toArray rfl rfl 34 _ (HP.out.at 0 rfl) infoRd rfl (one_rd _) ?_)
      have hput := HP.out.put 0 rfl N.cells.toArray
      simp only [List.set_cons_succ, List.set_cons_zero] at hput
      generalize World.setRow vp gb _ = v4 at hput ⊢
      have H4 := Lib.hid hput
      clear hput
      clear HP
      go_wp2_with (first | (refine Row.wpList_load_g 34 _ rfl (by first | rfl | (go_simp; done) | fail) ⟨ga, 0, none⟩ rfl N.cells _ (seg H4.out 1 0 rfl _ rfl) Tryd.underlying34 rfl infoRd ?_) | (refine Row.wpList_load_g 34 _ rfl (by first | rfl | (go_simp; done) | fail) ⟨gb, 0, none⟩ rfl N.cells _ (seg H4.out 0 0 rfl _ rfl) Tryd.underlying34 rfl infoRd ?_) | (refine Row.wpList_neq 34 _ _ _ rfl (by rfl) N.cells.toArray N.cells.toArray rfl rfl guardRid true (rid_same N) ?_))
      go_roundw
      case rel => exact ⟨q + 1, N, by omega, by go_num, H4.out⟩
      case measure => simp [intOf]; omega
    · obtain rfl : q = L.length := by omega
      go_wp2_with fail
      refine (AW.out _ HB.out.bel).mono ?_
      rintro e w9 ⟨rfl, b9⟩
      go_wp2
      go_ret
      exact ⟨rfl, (HB.out.step b9).bel⟩
/-! ### the row's step -/
theorem lifted (os : Os) (started : os.Started) (H : Type) (enc : TypeId × Value → H) :
    ReturnsInHanded {} Tryd.checked os 4 .any (fun w args => (Rows.transitStepsSpec.pre enc Tryd.prog Tryd.f4 Rows.transitStepsRow.domain false w args ∧ laidMetH Tryd.prog Rows.transitStepsRow.laid w) ∧ sizedMet enc Tryd.prog Tryd.f4 (OpenSpec.ofChange Rows.transitStepsSpec) false w args) (Rows.transitStepsSpec.post enc Tryd.prog Tryd.f4 false true false false) := by
  refine returnsInHanded_of_change_and (C := Tryd.checked) (X := fun w _ => laidMetH Tryd.prog Rows.transitStepsRow.laid w) (fun _ _ _ hh h => h.of_heap hh) own started (by kernel_rfl) Tryd.func4
    (ChangeSpec.witness_shaped (enc := enc) (C := Tryd.checked) (os := os) (X := fun w _ => laidMetH Tryd.prog Rows.transitStepsRow.laid w) false (World.doorLaid Tryd.prog 19 os) #[.agg (Clone.zTab.cells Clone.zHd).toArray, .agg (Tr.Rid.cells ⟨0, 0, 0, 0, 0, 0⟩).toArray, .slice none 0 0] 8 rfl (World.shaped_of_RefB (by kernel_rfl) (by kernel_rfl)) (by kernel_rfl) (by kernel_rfl) (by kernel_rfl) (TrZ.door_met os _)) ?_
  intro W base args ds gs before hval0 hW _ _ hL _
  have hval : ∀ (j : Nat) t v, Tryd.f4.params[j]? = some t → args[j]? = some v → Value.okWide Tryd.prog W .any base t v := hval0
  have hW' := hW
  obtain ⟨p, q, hA0, hV, rfl, hfz, hnd⟩ := hW
  have hA : DataW.TrodAll enc Tryd.prog W 0 (fun _ => true) true Tryd.f4.params.toList args.toList ds p := hA0
  rw [Tryd.params4] at hA hval
  obtain ⟨v0, vs0, d0, ds0, p0, q0, hargs, rfl, rfl, h0, r0⟩ := trodAll_cons hA
  obtain ⟨v1, vs1, d1, ds1, p1, q1, rfl, rfl, rfl, h1, r1⟩ := trodAll_cons r0
  obtain ⟨v2, vs2, d2, ds2, p2, q2, rfl, rfl, rfl, h2, r2⟩ := trodAll_cons r1
  obtain ⟨rfl, rfl, rfl⟩ := trodAll_nil r2
  obtain rfl : args = #[v0, v1, v2] := by cases args; simp_all
  obtain ⟨rfl, rfl⟩ := trodVars_none hV
  obtain ⟨c0, rfl, _⟩ := okWide_struct Tryd.underlying31 (hval 0 31 v0 rfl rfl)
  have k0 := h0
  have lt0 : ∀ x ∈ p0, x.block < W.heap.size := by obtain ⟨m, hm⟩ := k0; exact DataW.trod_lt m _ _ _ hm
  obtain ⟨H0, T0, e0, w0⟩ : ∃ (h : Tab.Hd) (T : Tab.Tab), c0 = (T.cells h).toArray ∧ Tab.IsTab W h T := by
    obtain ⟨fuel, hf⟩ := h0
    obtain ⟨h, T, e, k⟩ := TabArg.open_tab hf
    exact ⟨h, T, by rw [← e]; simp [Value.cells], k⟩
  subst e0
  obtain ⟨c1, rfl, _⟩ := okWide_struct Tryd.underlying34 (hval 1 34 v1 rfl rfl)
  have k1 := h1
  have lt1 : ∀ x ∈ p1, x.block < W.heap.size := by obtain ⟨m, hm⟩ := k1; exact DataW.trod_lt m _ _ _ hm
  obtain ⟨x1, e1⟩ : ∃ x : Tr.Rid, c1 = x.cells.toArray := by
    obtain ⟨fuel, hf⟩ := h1
    obtain ⟨x, e⟩ := Tr.rid_el (Flat.trod_flat 4 _ _ Tr.flRid fuel _ _ hf)
    exact ⟨x, by rw [← e]; simp [Value.cells]⟩
  subst e1
  obtain ⟨a2, len2, cap2, rfl⟩ := okWide_slice Tryd.underlying47 (hval 2 47 v2 rfl rfl)
  have k2 := h2
  have lt2 : ∀ x ∈ p2, x.block < W.heap.size := by obtain ⟨m, hm⟩ := k2; exact DataW.trod_lt m _ _ _ hm
  obtain ⟨z2, w2⟩ : ∃ zs, IsRow .i64 W a2 len2 cap2 zs := by
    obtain ⟨fuel, hf⟩ := h2
    rcases open_ints Tryd.underlying47 Tryd.underlying3 (by kernel_rfl) hf with ⟨hcs, _⟩ | ⟨x, l, c, zs, hcs, _, hl, hm, hz, _, hcell, hwz⟩
    · simp [Value.cells] at hcs
      obtain ⟨rfl, rfl, rfl⟩ := hcs
      exact ⟨[], .inl ⟨rfl, rfl, rfl, rfl⟩⟩
    · simp [Value.cells] at hcs
      obtain ⟨rfl, rfl, rfl⟩ := hcs
      exact ⟨zs, .inr ⟨_, rfl, hl, hm, by simpa using hz, hcell, hwz⟩⟩
  clear hA0 hval0
  refine (walk T0 H0 x1 a2 len2 cap2 z2 W w0 w2 (TrZ.of_laid hL)).mono fun e W' ⟨he, bel⟩ => ?_
  subst he
  exact ⟨_, rfl, _, _, _, [], _, [], hW', trodAll_mk1 (shut_bool Tryd.underlying4 _), (trodAll_cons_mk (Below.trod laidOut (by kernel_rfl) (of_decide_eq_true (by kernel_rfl)) k0 bel lt0) (trodAll_cons_mk (Below.trod laidOut (by kernel_rfl) (of_decide_eq_true (by kernel_rfl)) k1 bel lt1) (trodAll_cons_mk (Below.trod laidOut (by kernel_rfl) (of_decide_eq_true (by kernel_rfl)) k2 bel lt2) trodAll_mk0))), rfl, bel.frame _, fun h => by cases h⟩
theorem over : Rows.transitStepsRow.holds Tryd.pinned (OpenSpec.ofChange Rows.transitStepsSpec) :=
  OpenClaim.holds_of_wide 4 Tryd.f4 rfl rfl rfl rfl rfl rfl rfl ⟨rfl, rfl, rfl, rfl, rfl⟩ rfl rfl rfl rfl rfl (by kernel_rfl) Tryd.func4 (by kernel_rfl)
    (of_decide_eq_true (by kernel_rfl)) (by unfold Func.isWrapper; first | (rw [if_pos (by decide +kernel)]; kernel_rfl) | (rw [if_neg (by decide +kernel)]; exact ⟨rfl, rfl⟩))
    (fun os started H enc _ => lifted os started H enc)
/-- the statement: the tied card -/
theorem proved : Rows.TransitStepsCardSaid :=
  Claim7.holds_tied_plain_at .later [] Rows.transitStepsCard.laidKinds true Rows.transitStepsCard.stood.harness Rows.transitStepsCard.stood.looks
    over (fun _ h => by cases h) (by kernel_rfl) (fun _ h => by cases h) transitSteps_row_tie rfl ⟨rfl, rfl⟩ (by kernel_rfl) rfl
    (fun f fn hf hfn => by
      obtain rfl : f = 4 := Option.some.inj ((show Tryd.prog.funcNamed "crossbuck/crossbucklaw20.TransitSteps" = some 4 by kernel_rfl).symm.trans hf) |>.symm
      obtain rfl : fn = Tryd.f4 := (Option.some.inj (Tryd.func4.symm.trans hfn)).symm
      exact ⟨by kernel_rfl, fun j t ht => by
        have hm : t ∈ Tryd.f4.params.toList := Array.mem_toList_iff.2 (Array.mem_of_getElem? ht)
        have hall : (Tryd.f4.params.toList.all fun u => !Tryd.prog.wantsStandIn u) = true := by kernel_rfl
        have h1 := List.all_eq_true.1 hall t hm
        exact (show Tryd.prog.wantsStandIn t = false by simpa using h1)⟩)
    (by kernel_rfl)
#print axioms proved
end transitSteps
end Go.Proofs.YtkccepdifgldeaaDoor
