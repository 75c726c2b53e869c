/- TransitAll returns true at any table, any state, any runs and any set of asking buses: Live, Hold and Early of package transit answer as the document's own answers do. No condition but what the card ties: math/bits' tables. -/
import Derived.Test.YtkccepdifgldeaaDoorRows
import Derived.Test.YtkccepdifgldeaaDoorTie
import Derived.Test.YtkccepdifgldeaaDoorCards
import Derived.Test.YtkccepdifgldeaaDoorPart02
import Derived.Test.YtkccepdifgldeaaDoorPart03
import Derived.Deep.Cut
import Derived.LoopTactic
import Derived.BigQuiet
import Derived.Test.YtkccepdifgldeaaDoorPart04
import Derived.WalkKit
import Derived.WalkLawsBesides
import Derived.ProofKit
import Derived.OpenShut
import Derived.ShutString
import Derived.ChangeOld
import Derived.Below
set_option linter.unusedVariables false
set_option linter.unusedSimpArgs false
set_option linter.unusedSectionVars false
set_option maxHeartbeats 8000000
set_option maxRecDepth 100000
namespace Go.Proofs.YtkccepdifgldeaaDoor
namespace transitAll
open Go.ChangeShapes Go.WideShapes Go.ChangeAt Go.RowKit
open Tab Ru QL Rg PlanM Tr
theorem own : ownKnob Tryd.prog.godebug = none := by kernel_rfl
theorem laidOut : laidOutB Tryd.prog = true := by kernel_rfl
/-- WHAT THE WALK IS TOLD OF A SLICE OF INTEGERS THAT CAME IN: it is nil; or it leads to a row of 'cap' cells, the numbers 'zs' (the first 'len' are its elements, the rest its spare room), each fitting its kind. -/
def IsRow (k : IntKind) (w : World) (a : Option Addr) (len cap : Nat) (zs : List Int) : Prop :=
  (a = none ∧ len = 0 ∧ cap = 0 ∧ zs = []) ∨
  ∃ x, a = some x ∧ len ≤ cap ∧ cap ≤ maxLen ∧ zs.length = cap ∧ (∀ i, i < zs.length → w.cell? (x.add i) = some (.int k (zs.getD i 0))) ∧ ∀ n ∈ zs, (Lit.int k n).wf = true
/-! ### the walk -/
theorem walk (T0 : Tab.Tab) (H0 : Tab.Hd) (x1 : Tr.Rid) (x2 : List Ru.Ru) (a3 : Int) (w : World) (w0 : Tab.IsTab w H0 T0) (w2 : x2.length = 8) (w3 : (Lit.int .i64 a3).wf = true) (db : Tr.DB w) :
    Calls Tryd.prog 3 #[.agg (T0.cells H0).toArray, .agg x1.cells.toArray, .agg (Rg.runsC x2).toArray, .int .i64 a3] w fun e w' => e = .returned (.bool true) ∧ Below w.heap.size w w' := by
  have h1 : (T0.cells H0).length = 131 := by have := (cells_ok w0).size; rwa [List.size_toArray] at this
  have IA : (Tryd.prog.info? 31).map (·.size) = some (T0.cells H0).length := by rw [h1]; exact May.infoT
  have IR : (Tryd.prog.info? 41).map (·.size) = some (runsC x2).length := by rw [runs_len, w2]; exact infoRs
  obtain ⟨rl, hrl⟩ : ∃ r : Int, (liveS T0 x1 a3 : Nat) = r := ⟨_, rfl⟩
  obtain ⟨rh, hrh⟩ : ∃ r : Int, (holdS T0 x1 x2 a3 : Nat) = r := ⟨_, rfl⟩
  obtain ⟨re, hre⟩ : ∃ r : Int, earlyS T0 x1 x2 a3 = r := ⟨_, rfl⟩
  have E1 : Hid (∀ W, Below w.heap.size w W → Calls Tryd.prog 10 #[.agg (T0.cells H0).toArray, .agg x1.cells.toArray, .int .i64 a3] W fun e w' => e = .returned (.int .i64 rl) ∧ Below W.heap.size W w') := Lib.hid (fun W hb => by rw [← hrl]; exact live_any T0 H0 x1 a3 W (w0.below hb) (db.below hb))
  have E2 : Hid (∀ W, Below w.heap.size w W → Calls Tryd.prog 11 #[.agg (T0.cells H0).toArray, .agg x1.cells.toArray, .int .i64 a3] W fun e w' => e = .returned (.int .i64 rl) ∧ Below W.heap.size W w') := Lib.hid (fun W hb => by rw [← hrl]; exact rlive_any T0 H0 x1 a3 W (w0.below hb))
  have E3 : Hid (∀ W, Below w.heap.size w W → Calls Tryd.prog 12 #[.agg (T0.cells H0).toArray, .agg x1.cells.toArray, .agg (runsC x2).toArray, .int .i64 a3] W fun e w' => e = .returned (.int .i64 rh) ∧ Below W.heap.size W w') := Lib.hid (fun W hb => by rw [← hrh]; exact hold_any T0 H0 x1 x2 a3 W (w0.below hb) (db.below hb) w2)
  have E4 : Hid (∀ W, Below w.heap.size w W → Calls Tryd.prog 13 #[.agg (T0.cells H0).toArray, .agg x1.cells.toArray, .agg (runsC x2).toArray, .int .i64 a3] W fun e w' => e = .returned (.int .i64 rh) ∧ Below W.heap.size W w') := Lib.hid (fun W hb => by rw [← hrh]; exact rhold_any T0 H0 x1 x2 a3 W (w0.below hb) w2)
  have E5 : Hid (∀ W, Below w.heap.size w W → Calls Tryd.prog 14 #[.agg (T0.cells H0).toArray, .agg x1.cells.toArray, .agg (runsC x2).toArray, .int .i64 a3] W fun e w' => e = .returned (.int .i64 re) ∧ Below W.heap.size W w') := Lib.hid (fun W hb => by rw [← hre]; exact early_any T0 H0 x1 x2 a3 W (w0.below hb) (db.below hb) w2)
  have E6 : Hid (∀ W, Below w.heap.size w W → Calls Tryd.prog 15 #[.agg (T0.cells H0).toArray, .agg x1.cells.toArray, .agg (runsC x2).toArray, .int .i64 a3] W fun e w' => e = .returned (.int .i64 re) ∧ Below W.heap.size W w') := Lib.hid (fun W hb => by rw [← hre]; exact rearly_any T0 H0 x1 x2 a3 W (w0.below hb) w2)
  have E7 : Hid (∀ W, Below w.heap.size w W → Calls Tryd.prog 9 #[] W fun e w' => e = .returned (.bool true) ∧ Below W.heap.size W w') := Lib.hid (fun W hb => awake_any W (db.below hb))
  have LI : Hid (∀ W, Below w.heap.size w W → Calls Tryd.prog 8 #[.agg (T0.cells H0).toArray] W fun e w' => e = .returned (.bool (decide (T0.buses.length ≤ 8))) ∧ Below W.heap.size W w') := Lib.hid (fun W hb => light_any T0 H0 W (w0.below hb))
  clear w0 hrl hrh hre h1 w2
  generalize T0.cells H0 = tc at *
  generalize runsC x2 = rc at *
  have hn0 := Blk.Bks.nil w
  have hn1 := hn0.alloc tc.toArray 31
  have hn2 := hn1.alloc x1.cells.toArray 34
  rw [show (w.alloc (.cells tc.toArray 31)).heap.size = w.heap.size + 1 by simp] at hn2
  have hn3 := hn2.alloc rc.toArray 41
  rw [show ((w.alloc (.cells tc.toArray 31)).alloc (.cells x1.cells.toArray 34)).heap.size = w.heap.size + 1 + 1 by simp] at hn3
  clear hn0
  clear hn1
  clear hn2
  go_enter Tryd.func3, Tryd.ntmps3
  go_upto_region 1 with fail
  generalize World.alloc (World.alloc (World.alloc w _) _) _ = v at hn3 ⊢
  generalize hg2 : w.heap.size + 1 + 1 = gr at hn3 ⊢
  generalize hg1 : w.heap.size + 1 = gs at hn3 ⊢
  generalize hg0 : w.heap.size = gt at hn3 ⊢
  clear hg0 hg1 hg2
  have HB := Lib.hid hn3
  clear hn3
  go_wp2_with (refine Row.wpList_load_g 31 _ rfl (by first | rfl | (go_simp; done) | fail) ⟨gt, 0, none⟩ rfl tc _ (by have := HB.out.lies 2 rfl; simpa using this) Tryd.underlying31 rfl IA ?_)
  refine (LI.out _ HB.out.bel).mono ?_
  rintro e v1 ⟨rfl, b1⟩
  have HC := Lib.hid (HB.out.step b1)
  clear b1 HB LI
  by_cases h8 : T0.buses.length ≤ 8
  · rw [decide_eq_true h8]
    go_upto_region 3 with fail
    have HV := Lib.hid HC.out.bel
    refine QB.region_below v1.heap.size (by kernel_rfl) (by kernel_rfl) ?_
    repeat first
      | (refine wpQuiet_load rfl 31 _ rfl ⟨gt, 0, none⟩ rfl tc _ (fun w' ⟨pw, e⟩ => by rw [e]; exact (by have := (HC.out.by pw).lies 2 rfl; simpa using this)) Tryd.underlying31 rfl IA ?_
         dsimp only [Act.put]
         simp only [List.setIfInBounds_toArray, List.set_cons_zero, List.set_cons_succ])
      | (refine wpQuiet_load rfl 34 _ rfl ⟨gs, 0, none⟩ rfl x1.cells _ (fun w' ⟨pw, e⟩ => by rw [e]; exact seg (HC.out.by pw) 1 0 rfl _ rfl) Tryd.underlying34 rfl infoRd ?_
         dsimp only [Act.put]
         simp only [List.setIfInBounds_toArray, List.set_cons_zero, List.set_cons_succ])
      | (refine wpQuiet_load rfl 41 _ rfl ⟨gr, 0, none⟩ rfl rc _ (fun w' ⟨pw, e⟩ => by rw [e]; exact (by have := (HC.out.by pw).lies 0 rfl; simpa using this)) Tryd.underlying41 rfl IR ?_
         dsimp only [Act.put]
         simp only [List.setIfInBounds_toArray, List.set_cons_zero, List.set_cons_succ])
      | (quiet_step (first | (go_at_call 10; with_reducible exact QB.call_of (Nat.le_refl _) (fun b => E1.out _ (HV.out.trans (b.mono HV.out.size)))) | (go_at_call 11; with_reducible exact QB.call_of (Nat.le_refl _) (fun b => E2.out _ (HV.out.trans (b.mono HV.out.size)))) | (go_at_call 12; with_reducible exact QB.call_of (Nat.le_refl _) (fun b => E3.out _ (HV.out.trans (b.mono HV.out.size)))) | (go_at_call 13; with_reducible exact QB.call_of (Nat.le_refl _) (fun b => E4.out _ (HV.out.trans (b.mono HV.out.size)))) | (go_at_call 14; with_reducible exact QB.call_of (Nat.le_refl _) (fun b => E5.out _ (HV.out.trans (b.mono HV.out.size)))) | (go_at_call 15; with_reducible exact QB.call_of (Nat.le_refl _) (fun b => E6.out _ (HV.out.trans (b.mono HV.out.size)))) | (go_at_call 9; with_reducible exact QB.call_of (Nat.le_refl _) (fun b => E7.out _ (HV.out.trans (b.mono HV.out.size))))); try simp only [beq_self_eq_true])
    refine wpQuiet_nil ?_
    intro _ hw'
    obtain ⟨pq, rfl⟩ := hw'
    have HP := Lib.hid (HC.out.by pq)
    generalize pq.world = vp at HP ⊢
    go_wp2
    go_ret
    exact ⟨rfl, HP.out.bel⟩
  · rw [decide_eq_false h8]
    go_wp2_with fail
    refine (E7.out _ HC.out.bel).mono ?_
    rintro e w9 ⟨rfl, b9⟩
    go_wp2
    go_ret
    exact ⟨rfl, (HC.out.step b9).bel⟩
/-! ### the row's step -/
theorem lifted (os : Os) (started : os.Started) (H : Type) (enc : TypeId × Value → H) :
    ReturnsInHanded {} Tryd.checked os 3 .any (fun w args => (Rows.transitAllSpec.pre enc Tryd.prog Tryd.f3 Rows.transitAllRow.domain false w args ∧ laidMetH Tryd.prog Rows.transitAllRow.laid w) ∧ sizedMet enc Tryd.prog Tryd.f3 (OpenSpec.ofChange Rows.transitAllSpec) false w args) (Rows.transitAllSpec.post enc Tryd.prog Tryd.f3 false true false false) := by
  refine returnsInHanded_of_change_and (C := Tryd.checked) (X := fun w _ => laidMetH Tryd.prog Rows.transitAllRow.laid w) (fun _ _ _ hh h => h.of_heap hh) own started (by kernel_rfl) Tryd.func3
    (ChangeSpec.witness_shaped (enc := enc) (C := Tryd.checked) (os := os) (X := fun w _ => laidMetH Tryd.prog Rows.transitAllRow.laid w) false (World.doorLaid Tryd.prog 19 os) #[.agg (Clone.zTab.cells Clone.zHd).toArray, .agg (Tr.Rid.cells ⟨0, 0, 0, 0, 0, 0⟩).toArray, .agg (Rg.runsC (List.replicate 8 Rg.zRu)).toArray, .int .i64 0] 8 rfl (World.shaped_of_RefB (by kernel_rfl) (by kernel_rfl)) (by kernel_rfl) (by kernel_rfl) (by kernel_rfl) (TrZ.door_met os _)) ?_
  intro W base args ds gs before hval0 hW _ _ hL _
  have hval : ∀ (j : Nat) t v, Tryd.f3.params[j]? = some t → args[j]? = some v → Value.okWide Tryd.prog W .any base t v := hval0
  have hW' := hW
  obtain ⟨p, q, hA0, hV, rfl, hfz, hnd⟩ := hW
  have hA : DataW.TrodAll enc Tryd.prog W 0 (fun _ => true) true Tryd.f3.params.toList args.toList ds p := hA0
  rw [Tryd.params3] at hA hval
  obtain ⟨v0, vs0, d0, ds0, p0, q0, hargs, rfl, rfl, h0, r0⟩ := trodAll_cons hA
  obtain ⟨v1, vs1, d1, ds1, p1, q1, rfl, rfl, rfl, h1, r1⟩ := trodAll_cons r0
  obtain ⟨v2, vs2, d2, ds2, p2, q2, rfl, rfl, rfl, h2, r2⟩ := trodAll_cons r1
  obtain ⟨v3, vs3, d3, ds3, p3, q3, rfl, rfl, rfl, h3, r3⟩ := trodAll_cons r2
  obtain ⟨rfl, rfl, rfl⟩ := trodAll_nil r3
  obtain rfl : args = #[v0, v1, v2, v3] := by cases args; simp_all
  obtain ⟨rfl, rfl⟩ := trodVars_none hV
  obtain ⟨c0, rfl, _⟩ := okWide_struct Tryd.underlying31 (hval 0 31 v0 rfl rfl)
  have k0 := h0
  have lt0 : ∀ x ∈ p0, x.block < W.heap.size := by obtain ⟨m, hm⟩ := k0; exact DataW.trod_lt m _ _ _ hm
  obtain ⟨H0, T0, e0, w0⟩ : ∃ (h : Tab.Hd) (T : Tab.Tab), c0 = (T.cells h).toArray ∧ Tab.IsTab W h T := by
    obtain ⟨fuel, hf⟩ := h0
    obtain ⟨h, T, e, k⟩ := TabArg.open_tab hf
    exact ⟨h, T, by rw [← e]; simp [Value.cells], k⟩
  subst e0
  obtain ⟨c1, rfl, _⟩ := okWide_struct Tryd.underlying34 (hval 1 34 v1 rfl rfl)
  have k1 := h1
  have lt1 : ∀ x ∈ p1, x.block < W.heap.size := by obtain ⟨m, hm⟩ := k1; exact DataW.trod_lt m _ _ _ hm
  obtain ⟨x1, e1⟩ : ∃ x : Tr.Rid, c1 = x.cells.toArray := by
    obtain ⟨fuel, hf⟩ := h1
    obtain ⟨x, e⟩ := Tr.rid_el (Flat.trod_flat 4 _ _ Tr.flRid fuel _ _ hf)
    exact ⟨x, by rw [← e]; simp [Value.cells]⟩
  subst e1
  obtain ⟨c2, rfl, _⟩ := Rg.okWide_arr Tryd.underlying41 (hval 2 41 v2 rfl rfl)
  have k2 := h2
  have lt2 : ∀ x ∈ p2, x.block < W.heap.size := by obtain ⟨m, hm⟩ := k2; exact DataW.trod_lt m _ _ _ hm
  obtain ⟨x2, w2, e2⟩ : ∃ x : List Ru.Ru, x.length = 8 ∧ c2 = (Rg.runsC x).toArray := by
    obtain ⟨fuel, hf⟩ := h2
    obtain ⟨x, hl, e⟩ := Rg.rus_el 8 (Flat.trod_flat 5 _ _ Rg.flRs fuel _ _ hf)
    exact ⟨x, hl, by rw [← e]; simp [Value.cells]⟩
  subst e2
  obtain ⟨a3, rfl, rfl, rfl, w3⟩ := open_int Tryd.underlying3 (hval 3 3 v3 rfl rfl) h3
  clear hA0 hval0
  refine (walk T0 H0 x1 x2 a3 W w0 w2 w3 (TrZ.of_laid hL)).mono fun e W' ⟨he, bel⟩ => ?_
  subst he
  exact ⟨_, rfl, _, _, _, [], _, [], hW', trodAll_mk1 (shut_bool Tryd.underlying4 _), (trodAll_cons_mk (Below.trod laidOut (by kernel_rfl) (of_decide_eq_true (by kernel_rfl)) k0 bel lt0) (trodAll_cons_mk (Below.trod laidOut (by kernel_rfl) (of_decide_eq_true (by kernel_rfl)) k1 bel lt1) (trodAll_cons_mk (Below.trod laidOut (by kernel_rfl) (of_decide_eq_true (by kernel_rfl)) k2 bel lt2) (trodAll_cons_mk (shut_int Tryd.underlying3 w3) trodAll_mk0)))), rfl, bel.frame _, fun h => by cases h⟩
theorem over : Rows.transitAllRow.holds Tryd.pinned (OpenSpec.ofChange Rows.transitAllSpec) :=
  OpenClaim.holds_of_wide 3 Tryd.f3 rfl rfl rfl rfl rfl rfl rfl ⟨rfl, rfl, rfl, rfl, rfl⟩ rfl rfl rfl rfl rfl (by kernel_rfl) Tryd.func3 (by kernel_rfl)
    (of_decide_eq_true (by kernel_rfl)) (by unfold Func.isWrapper; first | (rw [if_pos (by decide +kernel)]; kernel_rfl) | (rw [if_neg (by decide +kernel)]; exact ⟨rfl, rfl⟩))
    (fun os started H enc _ => lifted os started H enc)
/-- the statement: the tied card -/
theorem proved : Rows.TransitAllCardSaid :=
  Claim7.holds_tied_plain_at .later [] Rows.transitAllCard.laidKinds true Rows.transitAllCard.stood.harness Rows.transitAllCard.stood.looks
    over (fun _ h => by cases h) (by kernel_rfl) (fun _ h => by cases h) transitAll_row_tie rfl ⟨rfl, rfl⟩ (by kernel_rfl) rfl
    (fun f fn hf hfn => by
      obtain rfl : f = 3 := Option.some.inj ((show Tryd.prog.funcNamed "crossbuck/crossbucklaw20.TransitAll" = some 3 by kernel_rfl).symm.trans hf) |>.symm
      obtain rfl : fn = Tryd.f3 := (Option.some.inj (Tryd.func3.symm.trans hfn)).symm
      exact ⟨by kernel_rfl, fun j t ht => by
        have hm : t ∈ Tryd.f3.params.toList := Array.mem_toList_iff.2 (Array.mem_of_getElem? ht)
        have hall : (Tryd.f3.params.toList.all fun u => !Tryd.prog.wantsStandIn u) = true := by kernel_rfl
        have h1 := List.all_eq_true.1 hall t hm
        exact (show Tryd.prog.wantsStandIn t = false by simpa using h1)⟩)
    (by kernel_rfl)
#print axioms proved
end transitAll
end Go.Proofs.YtkccepdifgldeaaDoor
