/- 3 texts in one file, in build order. -/
import Derived.Test.YtfekngnfjemgeaaRows
import Derived.Test.YtfekngnfjemgeaaPart06
import Derived.Test.YtfekngnfjemgeaaPart04
import Derived.Test.YtfekngnfjemgeaaPart02
import Derived.Deep.RegionHeld
import Derived.Test.YtfekngnfjemgeaaPart01
import Derived.Great.BuildSlice
set_option linter.unusedVariables false
set_option linter.unusedSimpArgs false
set_option linter.unusedSectionVars false
/- The contracts of package check's ranges and Check: at any table the Fault of the first rule that applies. -/
namespace Go.Proofs.Ytfekngnfjemgeaa.ChkK
open Go.ChangeShapes Go.WideShapes Go.ChangeAt Go.RowKit
open Tab PlaceM PlanM OnS ChkM ChkA ChkH ChkQ
open ChkB (laid2)
open Same (below_setRow Eqs eqs_of)
open Flat
open May (ret_bool infoT tabMay)
set_option linter.unusedVariables false
set_option linter.unusedSimpArgs false
theorem lerr (a b : Int) : LeafEq Try.prog 47 (I a, I b) := leaf_int Try.underlying47 a b
theorem flatFt : flat Try.prog 3 49 = some [47, 3] := by kernel_rfl
theorem guardF : Try.prog.eqGuardType Try.prog.depth 49 = false := by kernel_rfl
theorem fault_eqs (a b c d : Int) : Eqs 49 [I a, I b] [I c, I d] (decide (a = c ∧ b = d)) := by
  refine eqs_of flatFt (by decide) (by kernel_rfl) [(I a, I c), (I b, I d)] ⟨lerr _ _, Same.lint _ _, trivial⟩ rfl rfl ?_
  simp
set_option maxRecDepth 100000 in
set_option maxHeartbeats 4000000 in
theorem ranges_any (T : Tab) (h : Hd) (w : World) (ht : IsTab w h T) :
    Calls Try.prog 77 #[.agg (T.cells h).toArray] w fun e w' => e = .returned (.agg (fltC 4 (mayF T))) ∧ Below w.heap.size w w' := by
  have hsz := (cells_ok ht).size
  have IA : Hid ((Try.prog.info? 32).map (·.size) = some (T.cells h).length) := Lib.hid (by rw [List.size_toArray] at hsz; rw [hsz]; exact infoT)
  have MY : Hid (∀ W, Below w.heap.size w W → Calls Try.prog 40 #[.agg (T.cells h).toArray] W fun e w' => e = .returned (.bool (tabMay T)) ∧ Below W.heap.size W w') := Lib.hid (fun W hb => May.may_any T h W (ht.below hb))
  have LT0 := Lib.hid (Row.lies_new w (T.cells h).toArray 32)
  have hs1 : (w.alloc (.cells (T.cells h).toArray 32)).heap.size = w.heap.size + 1 := by simp
  have MF : Hid (mayF T = if tabMay T then none else some 0) := Lib.hid rfl
  generalize mayF T = o at MF ⊢
  generalize tabMay T = b at MF MY
  clear ht
  generalize T.cells h = c at *
  go_enter Try.func77, Try.ntmps77
  go_upto_region 1 with fail
  obtain ⟨W1, hW1, E1, E0, EB, bR⟩ := laid2 w (.cells c.toArray 32) (.cells #[.int .i64 0, .int .i64 0] 49)
  rw [hW1]
  have LT := Lib.hid (LT0.out.below (by rw [hs1]; exact EB))
  have B0 := Lib.hid E0
  clear hW1 EB hs1 hsz LT0 E0 E1
  go_wp2_with (refine Row.wpList_load_g 32 _ rfl (by first | rfl | go_simp) ⟨w.heap.size, 0, none⟩ rfl c _ LT.out Try.underlying32 rfl IA.out ?_)
  (try go_wp2_with fail)
  refine (MY.out _ B0.out).mono ?_
  rintro e u1 ⟨rfl, hb⟩
  have C0 : Hid (Below w.heap.size w u1) := Lib.hid (B0.out.trans (hb.mono B0.out.size))
  have C2 : Hid (u1.heap[w.heap.size + 1]? = some (.cells #[.int .i64 0, .int .i64 0] 49 (0, 0))) := Lib.hid ((hb.block _ (Array.getElem?_eq_some_iff.1 bR).1).trans bR)
  clear hb bR B0
  cases b with
  | true =>
    have RO : Hid (o = none) := Lib.hid (by rw [MF.out]; rfl)
    have HW := Lib.hid (below_setRow C0.out (g := w.heap.size + 1) (by omega) #[.int .i64 0, .int .i64 0])
    have HK := Lib.hid (setRow_heap u1 (w.heap.size + 1) _ #[.int .i64 0, .int .i64 0] _ _ C2.out)
    go_wp2_with (first | (refine wpList_store_row rfl 49 _ _ rfl (w.heap.size + 1) #[.int .i64 0, .int .i64 0] rfl rfl 49 _ C2.out infoF rfl (by simp [Value.oneCell']) ?_))
    generalize u1.setRow (w.heap.size + 1) #[.int .i64 0, .int .i64 0] = uz at HW HK ⊢
    (try go_wp2_with fail)
    (try simp only [Exit.inBlock, Exit.then])
    refine bodyPost_ret (v := .agg #[.int .i64 0, .int .i64 0]) ?_ rfl ⟨by rw [RO.out]; rfl, HW.out⟩
    exact results_cell_row rfl _ _ (w.heap.size + 1) 49 _ (0, 0) _ rfl HK.out Try.underlying49 rfl infoF
  | false =>
    have RO : Hid (o = some 0) := Lib.hid (by rw [MF.out]; rfl)
    have HW := Lib.hid (below_setRow C0.out (g := w.heap.size + 1) (by omega) #[.int .i64 4, .int .i64 0])
    have HK := Lib.hid (setRow_heap u1 (w.heap.size + 1) _ #[.int .i64 4, .int .i64 0] _ _ C2.out)
    go_wp2_with (first | (refine wpList_store_row rfl 49 _ _ rfl (w.heap.size + 1) #[.int .i64 4, .int .i64 0] rfl rfl 49 _ C2.out infoF rfl (by simp [Value.oneCell']) ?_))
    generalize u1.setRow (w.heap.size + 1) #[.int .i64 4, .int .i64 0] = uz at HW HK ⊢
    (try go_wp2_with fail)
    (try simp only [Exit.inBlock, Exit.then])
    refine bodyPost_ret (v := .agg #[.int .i64 4, .int .i64 0]) ?_ rfl ⟨by rw [RO.out]; rfl, HW.out⟩
    exact results_cell_row rfl _ _ (w.heap.size + 1) 49 _ (0, 0) _ rfl HK.out Try.underlying49 rfl infoF
theorem det_ok {T : Tab} {d : Det} (h : tabMay T = true) (hd : d ∈ T.dets) : Fl.isn d.on = false ∧ Fl.isn d.off = false ∧ 0 ≤ d.phase ∧ d.phase < 8 := by
  have h1 : May.Det.may d = true := by
    unfold tabMay at h
    simp only [Bool.and_eq_true] at h
    have h2 : May.listMay 16 May.Det.may T.dets = true := by simp [h]
    unfold May.listMay at h2
    rw [Bool.and_eq_true, List.all_eq_true] at h2
    exact h2.2 d hd
  unfold May.Det.may MayF.level May.allIn May.inB at h1
  simp only [Bool.and_eq_true, List.all_cons, List.all_nil, Bool.and_true, decide_eq_true_eq, Bool.not_eq_true'] at h1
  obtain ⟨⟨h2, h3⟩, ⟨⟨h4, _⟩, _⟩, ⟨⟨h5, _⟩, _⟩, _⟩ := h1
  exact ⟨h4, h5, h2, by omega⟩
theorem none_may {T : Tab} (h : mayF T = none) : tabMay T = true := by
  unfold mayF at h
  cases hm : tabMay T with
  | true => rfl
  | false => rw [hm] at h; simp at h
theorem idx8_0 (v0 v1 v2 v3 v4 v5 v6 v7 : Value) (w : World) : Sem.run Try.prog (Instr.index 81 (.agg #[v0, v1, v2, v3, v4, v5, v6, v7]) (.int .i64 0)) w = .ok v0 w := by kernel_rfl
theorem idx8_1 (v0 v1 v2 v3 v4 v5 v6 v7 : Value) (w : World) : Sem.run Try.prog (Instr.index 81 (.agg #[v0, v1, v2, v3, v4, v5, v6, v7]) (.int .i64 1)) w = .ok v1 w := by kernel_rfl
theorem idx8_2 (v0 v1 v2 v3 v4 v5 v6 v7 : Value) (w : World) : Sem.run Try.prog (Instr.index 81 (.agg #[v0, v1, v2, v3, v4, v5, v6, v7]) (.int .i64 2)) w = .ok v2 w := by kernel_rfl
theorem idx8_3 (v0 v1 v2 v3 v4 v5 v6 v7 : Value) (w : World) : Sem.run Try.prog (Instr.index 81 (.agg #[v0, v1, v2, v3, v4, v5, v6, v7]) (.int .i64 3)) w = .ok v3 w := by kernel_rfl
theorem idx8_4 (v0 v1 v2 v3 v4 v5 v6 v7 : Value) (w : World) : Sem.run Try.prog (Instr.index 81 (.agg #[v0, v1, v2, v3, v4, v5, v6, v7]) (.int .i64 4)) w = .ok v4 w := by kernel_rfl
theorem idx8_5 (v0 v1 v2 v3 v4 v5 v6 v7 : Value) (w : World) : Sem.run Try.prog (Instr.index 81 (.agg #[v0, v1, v2, v3, v4, v5, v6, v7]) (.int .i64 5)) w = .ok v5 w := by kernel_rfl
theorem idx8_6 (v0 v1 v2 v3 v4 v5 v6 v7 : Value) (w : World) : Sem.run Try.prog (Instr.index 81 (.agg #[v0, v1, v2, v3, v4, v5, v6, v7]) (.int .i64 6)) w = .ok v6 w := by kernel_rfl
theorem idx8_7 (v0 v1 v2 v3 v4 v5 v6 v7 : Value) (w : World) : Sem.run Try.prog (Instr.index 81 (.agg #[v0, v1, v2, v3, v4, v5, v6, v7]) (.int .i64 7)) w = .ok v7 w := by kernel_rfl
set_option maxRecDepth 100000 in
set_option maxHeartbeats 8000000 in
theorem check_any (T : Tab) (h : Hd) (w : World) (ht : IsTab w h T) :
    Calls Try.prog 14 #[.agg (T.cells h).toArray] w fun e w' => e = .returned (.agg (fcells (chkC T))) ∧ Below w.heap.size w w' := by
  have hsz := (cells_ok ht).size
  have IA : Hid ((Try.prog.info? 32).map (·.size) = some (T.cells h).length) := Lib.hid (by rw [List.size_toArray] at hsz; rw [hsz]; exact infoT)
  have LT0 := Lib.hid (Row.lies_new w (T.cells h).toArray 32)
  have hs1 : (w.alloc (.cells (T.cells h).toArray 32)).heap.size = w.heap.size + 1 := by simp
  have RU0 : Hid (∀ n W, Below w.heap.size w W → Lie n W → Calls Try.prog 77 #[.agg (T.cells h).toArray] W fun e w' => e = .returned (.agg (fltC 4 (mayF T))) ∧ Below W.heap.size W w') := Lib.hid (fun n W hb hl => ranges_any T h W (ht.below hb))
  have RU1 : Hid (∀ n W, Below w.heap.size w W → Lie n W → Calls Try.prog 109 #[.agg (T.cells h).toArray, .pointer (some ⟨n + 1 + 1, 0, none⟩), .pointer (some ⟨n + 1, 0, none⟩)] W fun e w' => e = .returned (.agg (fltC 7 ((ons T).find? fun p => phBad (phAt T p)))) ∧ Below W.heap.size W w') := Lib.hid (fun n W hb hl => ChkP.phases_P T h 7 (n + 1 + 1) (n + 1) (fun p => phBad (phAt T p)) W (ht.below hb) hl.c2 hl.c1 (fun k W' hk hb' => ChkB.badPhase_any T h k hk W' ((ht.below hb).below hb')))
  have RU2 : Hid (∀ n W, Below w.heap.size w W → Lie n W → Calls Try.prog 80 #[.agg (T.cells h).toArray] W fun e w' => e = .returned (.agg (fltC 8 (ringsC T))) ∧ Below W.heap.size W w') := Lib.hid (fun n W hb hl => by have := rings_any T h W (ht.below hb); rwa [flt_agg] at this)
  have RU3 : Hid (∀ n W, Below w.heap.size w W → Lie n W → Calls Try.prog 109 #[.agg (T.cells h).toArray, .pointer (some ⟨n + 3 + 1, 0, none⟩), .pointer (some ⟨n + 3, 0, none⟩)] W fun e w' => e = .returned (.agg (fltC 9 ((ons T).find? (confBad T)))) ∧ Below W.heap.size W w') := Lib.hid (fun n W hb hl => ChkP.phases_C T h 9 (n + 3 + 1) (n + 3) (confBad T) W (ht.below hb) hl.c4 hl.c3 (fun k W' hk hb' => ChkJ.badConflict_any T h k hk W' ((ht.below hb).below hb')))
  have RU4 : Hid (mayF T = none → ∀ n W, Below w.heap.size w W → Lie n W → Calls Try.prog 116 #[.agg (T.cells h).toArray, .pointer (some ⟨n + 5 + 1, 0, none⟩), .pointer (some ⟨n + 5 + 1 + 1, 0, none⟩), .pointer (some ⟨n + 5, 0, none⟩)] W fun e w' => e = .returned (.agg (fltC 10 (idx (detBad T) T.dets))) ∧ Below W.heap.size W w') := Lib.hid (fun hm0 => have hm := none_may hm0; fun n W hb hl => ChkE.elem_D T h 10 (n + 5 + 1) (n + 5 + 1 + 1) (n + 5) (detBad T) W (ht.below hb) hl.c6 hl.c7 hl.c5 (fun v W' hv hb' => ChkB.badDetector_any T h v W' ((ht.below hb).below hb') (det_ok hm hv).1 (det_ok hm hv).2.1 (det_ok hm hv).2.2))
  have RU5 : Hid (∀ n W, Below w.heap.size w W → Lie n W → Calls Try.prog 117 #[.agg (T.cells h).toArray, .pointer (some ⟨n + 8 + 1, 0, none⟩), .pointer (some ⟨n + 8 + 1 + 1, 0, none⟩), .pointer (some ⟨n + 8, 0, none⟩)] W fun e w' => e = .returned (.agg (fltC 11 (idx (railBad T) T.rails))) ∧ Below W.heap.size W w') := Lib.hid (fun n W hb hl => ChkE.elem_R T h 11 (n + 8 + 1) (n + 8 + 1 + 1) (n + 8) (railBad T) W (ht.below hb) hl.c9 hl.c10 hl.c8 (fun v W' hv hb' => ChkR.badRail_any T h v W' ((ht.below hb).below hb')))
  have RU6 : Hid (∀ n W, Below w.heap.size w W → Lie n W → Calls Try.prog 122 #[.agg (T.cells h).toArray, .pointer (some ⟨n + 11 + 1, 0, none⟩), .pointer (some ⟨n + 11 + 1 + 1, 0, none⟩), .pointer (some ⟨n + 11, 0, none⟩)] W fun e w' => e = .returned (.agg (fltC 12 (idx (busBad T) T.buses))) ∧ Below W.heap.size W w') := Lib.hid (fun n W hb hl => ChkE.elem_B T h 12 (n + 11 + 1) (n + 11 + 1 + 1) (n + 11) (busBad T) W (ht.below hb) hl.c12 hl.c13 hl.c11 (fun v W' hv hb' => ChkB.badBus_any T h v W' ((ht.below hb).below hb')))
  have RU7 : Hid (∀ n W, Below w.heap.size w W → Lie n W → Calls Try.prog 109 #[.agg (T.cells h).toArray, .pointer (some ⟨n + 14 + 1, 0, none⟩), .pointer (some ⟨n + 14, 0, none⟩)] W fun e w' => e = .returned (.agg (fltC 13 ((ons T).find? (flashBad T)))) ∧ Below W.heap.size W w') := Lib.hid (fun n W hb hl => ChkP.phases_F T h 13 (n + 14 + 1) (n + 14) (flashBad T) W (ht.below hb) hl.c15 hl.c14 (fun k W' hk hb' => ChkY.badFlash_any T h k hk W' ((ht.below hb).below hb')))
  obtain ⟨o0, ho0⟩ : ∃ z, (mayF T) = z := ⟨_, rfl⟩
  obtain ⟨o1, ho1⟩ : ∃ z, ((ons T).find? fun p => phBad (phAt T p)) = z := ⟨_, rfl⟩
  obtain ⟨o2, ho2⟩ : ∃ z, (ringsC T) = z := ⟨_, rfl⟩
  obtain ⟨o3, ho3⟩ : ∃ z, ((ons T).find? (confBad T)) = z := ⟨_, rfl⟩
  obtain ⟨o4, ho4⟩ : ∃ z, (idx (detBad T) T.dets) = z := ⟨_, rfl⟩
  obtain ⟨o5, ho5⟩ : ∃ z, (idx (railBad T) T.rails) = z := ⟨_, rfl⟩
  obtain ⟨o6, ho6⟩ : ∃ z, (idx (busBad T) T.buses) = z := ⟨_, rfl⟩
  obtain ⟨o7, ho7⟩ : ∃ z, ((ons T).find? (flashBad T)) = z := ⟨_, rfl⟩
  obtain ⟨l, hl⟩ : ∃ z, z = rulesC T := ⟨_, rfl⟩
  have CK : Hid (chkC T = firstF l) := Lib.hid (by rw [hl]; rfl)
  unfold rulesC at hl
  rw [ho0, ho1, ho2, ho3, ho4, ho5, ho6, ho7] at hl
  rw [ho0] at RU0
  rw [ho1] at RU1
  rw [ho2] at RU2
  rw [ho3] at RU3
  rw [ho4] at RU4
  rw [ho5] at RU5
  rw [ho6] at RU6
  rw [ho7] at RU7
  rw [ho0] at RU4
  have LL0 : Hid (l[0]? = some (4, o0)) := Lib.hid (by rw [hl]; rfl)
  have LL1 : Hid (l[1]? = some (7, o1)) := Lib.hid (by rw [hl]; rfl)
  have LL2 : Hid (l[2]? = some (8, o2)) := Lib.hid (by rw [hl]; rfl)
  have LL3 : Hid (l[3]? = some (9, o3)) := Lib.hid (by rw [hl]; rfl)
  have LL4 : Hid (l[4]? = some (10, o4)) := Lib.hid (by rw [hl]; rfl)
  have LL5 : Hid (l[5]? = some (11, o5)) := Lib.hid (by rw [hl]; rfl)
  have LL6 : Hid (l[6]? = some (12, o6)) := Lib.hid (by rw [hl]; rfl)
  have LL7 : Hid (l[7]? = some (13, o7)) := Lib.hid (by rw [hl]; rfl)
  have LE : Hid (∀ (j : Nat) x, l[j]? = some x → j < 8) := Lib.hid (fun j x hx => by have := (List.getElem?_eq_some_iff.1 hx).1; rw [hl] at this; simpa using this)
  generalize chkC T = ck at CK ⊢
  clear hl ht ho0 ho1 ho2 ho3 ho4 ho5 ho6 ho7
  generalize T.cells h = c at *
  go_enter Try.func14, Try.ntmps14
  go_upto_region 1 with fail
  obtain ⟨W1, hW1, E1, E0, EB, bR⟩ := laid2 w (.cells c.toArray 32) (.cells #[.int .i64 0, .int .i64 0] 49)
  rw [hW1]
  have LT1 := Lib.hid (LT0.out.below (by rw [hs1]; exact EB))
  have B0 := Lib.hid E0
  clear hW1 EB hs1 hsz LT0 E0 E1
  go_wp2_with fail
  refine (rules_any _).mono ?_
  rintro e W2 ⟨rfl, hlie, hb⟩
  have C0 : Hid (Below w.heap.size w W2) := Lib.hid (B0.out.trans (hb.mono B0.out.size))
  have C2 : Hid (W2.heap[w.heap.size + 1]? = some (.cells #[.int .i64 0, .int .i64 0] 49 (0, 0))) := Lib.hid ((hb.block _ (Array.getElem?_eq_some_iff.1 bR).1).trans bR)
  have LT := Lib.hid (LT1.out.below hb)
  have LI := Lib.hid hlie
  clear hb bR B0 hlie LT1
  generalize W1.heap.size = n at *
  unfold fns
  go_wp2_with fail
  go_loopw [7] (fun a wr => ∃ q : Nat, q ≤ 8 ∧ a = .int .i64 q ∧ (∀ (j : Nat) x, j < q → l[j]? = some x → x.2 = none) ∧ Below W2.heap.size W2 wr) (fun a _ => 8 - (intOf a).toNat)
  case atStart => exact ⟨0, by omega, rfl, (fun j x h => by omega), Below.refl _ _⟩
  case round =>
    obtain ⟨q, hq, rfl, hall, hB⟩ := hrel
    have HA := Lib.hid hall
    have HB := Lib.hid hB
    have BW : Hid (Below w.heap.size w wr) := Lib.hid (C0.out.trans (hB.mono C0.out.size))
    have LTW := Lib.hid (LT.out.below hB)
    have LIW := Lib.hid (LI.out.below hB)
    clear hall hB
    have hq9 : q = 0 ∨ q = 1 ∨ q = 2 ∨ q = 3 ∨ q = 4 ∨ q = 5 ∨ q = 6 ∨ q = 7 ∨ q = 8 := by omega
    clear hq
    rcases hq9 with rfl | rfl | rfl | rfl | rfl | rfl | rfl | rfl | rfl
    · rw [show ((0 : Nat) : Int) = (0 : Int) from rfl]
      have ix := idx8_0 (.func (.func 77) #[] #[]) (.func (.func 109) #[] #[.pointer (some ⟨n + 1 + 1, 0, none⟩), .pointer (some ⟨n + 1, 0, none⟩)]) (.func (.func 80) #[] #[]) (.func (.func 109) #[] #[.pointer (some ⟨n + 3 + 1, 0, none⟩), .pointer (some ⟨n + 3, 0, none⟩)]) (.func (.func 116) #[] #[.pointer (some ⟨n + 5 + 1, 0, none⟩), .pointer (some ⟨n + 5 + 1 + 1, 0, none⟩), .pointer (some ⟨n + 5, 0, none⟩)]) (.func (.func 117) #[] #[.pointer (some ⟨n + 8 + 1, 0, none⟩), .pointer (some ⟨n + 8 + 1 + 1, 0, none⟩), .pointer (some ⟨n + 8, 0, none⟩)]) (.func (.func 122) #[] #[.pointer (some ⟨n + 11 + 1, 0, none⟩), .pointer (some ⟨n + 11 + 1 + 1, 0, none⟩), .pointer (some ⟨n + 11, 0, none⟩)]) (.func (.func 109) #[] #[.pointer (some ⟨n + 14 + 1, 0, none⟩), .pointer (some ⟨n + 14, 0, none⟩)])
      have NX : Hid (o0 = none → ∀ (i : Nat) x, i < 0 + 1 → l[i]? = some x → x.2 = none) := Lib.hid (fun e i x hi hx => by
        by_cases hij : i = 0
        · subst hij; obtain rfl := Option.some.inj (hx.symm.trans LL0.out); exact e
        · exact HA.out i x (by omega) hx)
      have HIT : Hid (∀ p, o0 = some p → ck = (4, p)) := Lib.hid (fun p e => by rw [CK.out]; exact first_hit (q := 0) (by rw [LL0.out, e]) HA.out)
      have RC := Lib.hid (RU0.out n _ BW.out LIW.out)
      clear RU0 RU1 RU2 RU3 RU4 RU5 RU6 RU7 LL0 LL1 LL2 LL3 LL4 LL5 LL6 LL7 LE HA LIW
      go_wp2_with (refine Row.wpList_load_g 32 _ rfl (by first | rfl | go_simp) ⟨w.heap.size, 0, none⟩ rfl c _ LTW.out Try.underlying32 rfl IA.out ?_)
      (try go_wp2_with fail)
      clear ix
      refine RC.out.mono ?_
      rintro e u1 ⟨rfl, hb⟩
      have D0 : Hid (Below w.heap.size w u1) := Lib.hid (BW.out.trans (hb.mono BW.out.size))
      have D3 := Lib.hid (HB.out.trans (hb.mono HB.out.size))
      clear hb BW HB LTW RC
      cases o0 with
      | none =>
        have NN := Lib.hid (NX.out rfl)
        clear NX HIT
        go_upto_region 5 with (refine Row.wpList_store_new rfl 49 _ _ rfl u1 _ #[I 0, I 0] rfl rfl rfl infoF rfl (by simp [Value.oneCell']) ?_)
        have hg := Row.lies_new u1 #[I 0, I 0] 49
        have HL : Hid (Lies (u1.alloc (.cells #[I 0, I 0] 49)) ⟨u1.heap.size, 0, none⟩ #[I 0, I 0].toList) := Lib.hid hg
        have F0 : Hid (Below w.heap.size w (u1.alloc (.cells #[I 0, I 0] 49))) := Lib.hid (D0.out.alloc D0.out.size _)
        have F3 : Hid (Below W2.heap.size W2 (u1.alloc (.cells #[I 0, I 0] 49))) := Lib.hid (D3.out.alloc D3.out.size _)
        clear hg D0 D3
        generalize u1.alloc (.cells #[I 0, I 0] 49) = u2 at HL F0 F3 ⊢
        generalize u1.heap.size = b2 at HL ⊢
        have EQ := Lib.hid (show Eqs 49 [I 0, I 0] [I 0, I 0] true from fault_eqs 0 0 0 0)
        go_wp2_with (first | (refine Row.wpList_load_g 49 _ rfl (by first | rfl | go_simp) ⟨b2, 0, none⟩ rfl [I 0, I 0] _ HL.out Try.underlying49 rfl infoF ?_) | (refine Row.wpList_neq 49 _ _ _ rfl (by rfl) #[I 0, I 0] #[I 0, I 0] rfl rfl guardF true EQ.out ?_))
        (try go_wp2)
        go_roundw
        case rel => exact ⟨0 + 1, by omega, by go_num, NN.out, F3.out⟩
        case measure => simp [intOf]
      | some p =>
        have CP := Lib.hid (HIT.out p rfl)
        clear NX HIT
        go_upto_region 5 with (refine Row.wpList_store_new rfl 49 _ _ rfl u1 _ #[I 4, I p] rfl rfl rfl infoF rfl (by simp [Value.oneCell']) ?_)
        have hg := Row.lies_new u1 #[I 4, I p] 49
        have HL : Hid (Lies (u1.alloc (.cells #[I 4, I p] 49)) ⟨u1.heap.size, 0, none⟩ #[I 4, I p].toList) := Lib.hid hg
        have F0 : Hid (Below w.heap.size w (u1.alloc (.cells #[I 4, I p] 49))) := Lib.hid (D0.out.alloc D0.out.size _)
        have F3 : Hid (Below W2.heap.size W2 (u1.alloc (.cells #[I 4, I p] 49))) := Lib.hid (D3.out.alloc D3.out.size _)
        clear hg D0 D3
        generalize u1.alloc (.cells #[I 4, I p] 49) = u2 at HL F0 F3 ⊢
        generalize u1.heap.size = b2 at HL ⊢
        have EQ := Lib.hid (show Eqs 49 [I 4, I p] [I 0, I 0] false from by have := fault_eqs 4 p 0 0; rwa [decide_eq_false (by omega)] at this)
        have G2 : Hid (u2.heap[w.heap.size + 1]? = some (.cells #[.int .i64 0, .int .i64 0] 49 (0, 0))) := Lib.hid ((F3.out.block _ (Array.getElem?_eq_some_iff.1 C2.out).1).trans C2.out)
        have HW := Lib.hid (below_setRow F0.out (g := w.heap.size + 1) (by omega) #[I 4, I p])
        have HK := Lib.hid (setRow_heap u2 (w.heap.size + 1) _ #[I 4, I p] _ _ G2.out)
        go_wp2_with (first | (refine Row.wpList_load_g 49 _ rfl (by first | rfl | go_simp) ⟨b2, 0, none⟩ rfl [I 4, I p] _ HL.out Try.underlying49 rfl infoF ?_) | (refine Row.wpList_neq 49 _ _ _ rfl (by rfl) #[I 4, I p] #[I 0, I 0] rfl rfl guardF false EQ.out ?_) | (refine wpList_store_row rfl 49 _ _ rfl (w.heap.size + 1) #[I 4, I p] rfl rfl 49 _ G2.out infoF rfl (by simp [Value.oneCell']) ?_))
        generalize u2.setRow (w.heap.size + 1) #[I 4, I p] = uz at HW HK ⊢
        (try go_wp2_with fail)
        (try simp only [Exit.inBlock, Exit.then])
        refine bodyPost_ret (v := .agg #[I 4, I p]) ?_ rfl ⟨by rw [CP.out]; rfl, HW.out⟩
        exact results_cell_row rfl _ _ (w.heap.size + 1) 49 _ (0, 0) _ rfl HK.out Try.underlying49 rfl infoF
    · rw [show ((1 : Nat) : Int) = (1 : Int) from rfl]
      have ix := idx8_1 (.func (.func 77) #[] #[]) (.func (.func 109) #[] #[.pointer (some ⟨n + 1 + 1, 0, none⟩), .pointer (some ⟨n + 1, 0, none⟩)]) (.func (.func 80) #[] #[]) (.func (.func 109) #[] #[.pointer (some ⟨n + 3 + 1, 0, none⟩), .pointer (some ⟨n + 3, 0, none⟩)]) (.func (.func 116) #[] #[.pointer (some ⟨n + 5 + 1, 0, none⟩), .pointer (some ⟨n + 5 + 1 + 1, 0, none⟩), .pointer (some ⟨n + 5, 0, none⟩)]) (.func (.func 117) #[] #[.pointer (some ⟨n + 8 + 1, 0, none⟩), .pointer (some ⟨n + 8 + 1 + 1, 0, none⟩), .pointer (some ⟨n + 8, 0, none⟩)]) (.func (.func 122) #[] #[.pointer (some ⟨n + 11 + 1, 0, none⟩), .pointer (some ⟨n + 11 + 1 + 1, 0, none⟩), .pointer (some ⟨n + 11, 0, none⟩)]) (.func (.func 109) #[] #[.pointer (some ⟨n + 14 + 1, 0, none⟩), .pointer (some ⟨n + 14, 0, none⟩)])
      have NX : Hid (o1 = none → ∀ (i : Nat) x, i < 1 + 1 → l[i]? = some x → x.2 = none) := Lib.hid (fun e i x hi hx => by
        by_cases hij : i = 1
        · subst hij; obtain rfl := Option.some.inj (hx.symm.trans LL1.out); exact e
        · exact HA.out i x (by omega) hx)
      have HIT : Hid (∀ p, o1 = some p → ck = (7, p)) := Lib.hid (fun p e => by rw [CK.out]; exact first_hit (q := 1) (by rw [LL1.out, e]) HA.out)
      have RC := Lib.hid (RU1.out n _ BW.out LIW.out)
      clear RU0 RU1 RU2 RU3 RU4 RU5 RU6 RU7 LL0 LL1 LL2 LL3 LL4 LL5 LL6 LL7 LE HA LIW
      go_wp2_with (refine Row.wpList_load_g 32 _ rfl (by first | rfl | go_simp) ⟨w.heap.size, 0, none⟩ rfl c _ LTW.out Try.underlying32 rfl IA.out ?_)
      (try go_wp2_with fail)
      clear ix
      refine RC.out.mono ?_
      rintro e u1 ⟨rfl, hb⟩
      have D0 : Hid (Below w.heap.size w u1) := Lib.hid (BW.out.trans (hb.mono BW.out.size))
      have D3 := Lib.hid (HB.out.trans (hb.mono HB.out.size))
      clear hb BW HB LTW RC
      cases o1 with
      | none =>
        have NN := Lib.hid (NX.out rfl)
        clear NX HIT
        go_upto_region 5 with (refine Row.wpList_store_new rfl 49 _ _ rfl u1 _ #[I 0, I 0] rfl rfl rfl infoF rfl (by simp [Value.oneCell']) ?_)
        have hg := Row.lies_new u1 #[I 0, I 0] 49
        have HL : Hid (Lies (u1.alloc (.cells #[I 0, I 0] 49)) ⟨u1.heap.size, 0, none⟩ #[I 0, I 0].toList) := Lib.hid hg
        have F0 : Hid (Below w.heap.size w (u1.alloc (.cells #[I 0, I 0] 49))) := Lib.hid (D0.out.alloc D0.out.size _)
        have F3 : Hid (Below W2.heap.size W2 (u1.alloc (.cells #[I 0, I 0] 49))) := Lib.hid (D3.out.alloc D3.out.size _)
        clear hg D0 D3
        generalize u1.alloc (.cells #[I 0, I 0] 49) = u2 at HL F0 F3 ⊢
        generalize u1.heap.size = b2 at HL ⊢
        have EQ := Lib.hid (show Eqs 49 [I 0, I 0] [I 0, I 0] true from fault_eqs 0 0 0 0)
        go_wp2_with (first | (refine Row.wpList_load_g 49 _ rfl (by first | rfl | go_simp) ⟨b2, 0, none⟩ rfl [I 0, I 0] _ HL.out Try.underlying49 rfl infoF ?_) | (refine Row.wpList_neq 49 _ _ _ rfl (by rfl) #[I 0, I 0] #[I 0, I 0] rfl rfl guardF true EQ.out ?_))
        (try go_wp2)
        go_roundw
        case rel => exact ⟨1 + 1, by omega, by go_num, NN.out, F3.out⟩
        case measure => simp [intOf]
      | some p =>
        have CP := Lib.hid (HIT.out p rfl)
        clear NX HIT
        go_upto_region 5 with (refine Row.wpList_store_new rfl 49 _ _ rfl u1 _ #[I 7, I p] rfl rfl rfl infoF rfl (by simp [Value.oneCell']) ?_)
        have hg := Row.lies_new u1 #[I 7, I p] 49
        have HL : Hid (Lies (u1.alloc (.cells #[I 7, I p] 49)) ⟨u1.heap.size, 0, none⟩ #[I 7, I p].toList) := Lib.hid hg
        have F0 : Hid (Below w.heap.size w (u1.alloc (.cells #[I 7, I p] 49))) := Lib.hid (D0.out.alloc D0.out.size _)
        have F3 : Hid (Below W2.heap.size W2 (u1.alloc (.cells #[I 7, I p] 49))) := Lib.hid (D3.out.alloc D3.out.size _)
        clear hg D0 D3
        generalize u1.alloc (.cells #[I 7, I p] 49) = u2 at HL F0 F3 ⊢
        generalize u1.heap.size = b2 at HL ⊢
        have EQ := Lib.hid (show Eqs 49 [I 7, I p] [I 0, I 0] false from by have := fault_eqs 7 p 0 0; rwa [decide_eq_false (by omega)] at this)
        have G2 : Hid (u2.heap[w.heap.size + 1]? = some (.cells #[.int .i64 0, .int .i64 0] 49 (0, 0))) := Lib.hid ((F3.out.block _ (Array.getElem?_eq_some_iff.1 C2.out).1).trans C2.out)
        have HW := Lib.hid (below_setRow F0.out (g := w.heap.size + 1) (by omega) #[I 7, I p])
        have HK := Lib.hid (setRow_heap u2 (w.heap.size + 1) _ #[I 7, I p] _ _ G2.out)
        go_wp2_with (first | (refine Row.wpList_load_g 49 _ rfl (by first | rfl | go_simp) ⟨b2, 0, none⟩ rfl [I 7, I p] _ HL.out Try.underlying49 rfl infoF ?_) | (refine Row.wpList_neq 49 _ _ _ rfl (by rfl) #[I 7, I p] #[I 0, I 0] rfl rfl guardF false EQ.out ?_) | (refine wpList_store_row rfl 49 _ _ rfl (w.heap.size + 1) #[I 7, I p] rfl rfl 49 _ G2.out infoF rfl (by simp [Value.oneCell']) ?_))
        generalize u2.setRow (w.heap.size + 1) #[I 7, I p] = uz at HW HK ⊢
        (try go_wp2_with fail)
        (try simp only [Exit.inBlock, Exit.then])
        refine bodyPost_ret (v := .agg #[I 7, I p]) ?_ rfl ⟨by rw [CP.out]; rfl, HW.out⟩
        exact results_cell_row rfl _ _ (w.heap.size + 1) 49 _ (0, 0) _ rfl HK.out Try.underlying49 rfl infoF
    · rw [show ((2 : Nat) : Int) = (2 : Int) from rfl]
      have ix := idx8_2 (.func (.func 77) #[] #[]) (.func (.func 109) #[] #[.pointer (some ⟨n + 1 + 1, 0, none⟩), .pointer (some ⟨n + 1, 0, none⟩)]) (.func (.func 80) #[] #[]) (.func (.func 109) #[] #[.pointer (some ⟨n + 3 + 1, 0, none⟩), .pointer (some ⟨n + 3, 0, none⟩)]) (.func (.func 116) #[] #[.pointer (some ⟨n + 5 + 1, 0, none⟩), .pointer (some ⟨n + 5 + 1 + 1, 0, none⟩), .pointer (some ⟨n + 5, 0, none⟩)]) (.func (.func 117) #[] #[.pointer (some ⟨n + 8 + 1, 0, none⟩), .pointer (some ⟨n + 8 + 1 + 1, 0, none⟩), .pointer (some ⟨n + 8, 0, none⟩)]) (.func (.func 122) #[] #[.pointer (some ⟨n + 11 + 1, 0, none⟩), .pointer (some ⟨n + 11 + 1 + 1, 0, none⟩), .pointer (some ⟨n + 11, 0, none⟩)]) (.func (.func 109) #[] #[.pointer (some ⟨n + 14 + 1, 0, none⟩), .pointer (some ⟨n + 14, 0, none⟩)])
      have NX : Hid (o2 = none → ∀ (i : Nat) x, i < 2 + 1 → l[i]? = some x → x.2 = none) := Lib.hid (fun e i x hi hx => by
        by_cases hij : i = 2
        · subst hij; obtain rfl := Option.some.inj (hx.symm.trans LL2.out); exact e
        · exact HA.out i x (by omega) hx)
      have HIT : Hid (∀ p, o2 = some p → ck = (8, p)) := Lib.hid (fun p e => by rw [CK.out]; exact first_hit (q := 2) (by rw [LL2.out, e]) HA.out)
      have RC := Lib.hid (RU2.out n _ BW.out LIW.out)
      clear RU0 RU1 RU2 RU3 RU4 RU5 RU6 RU7 LL0 LL1 LL2 LL3 LL4 LL5 LL6 LL7 LE HA LIW
      go_wp2_with (refine Row.wpList_load_g 32 _ rfl (by first | rfl | go_simp) ⟨w.heap.size, 0, none⟩ rfl c _ LTW.out Try.underlying32 rfl IA.out ?_)
      (try go_wp2_with fail)
      clear ix
      refine RC.out.mono ?_
      rintro e u1 ⟨rfl, hb⟩
      have D0 : Hid (Below w.heap.size w u1) := Lib.hid (BW.out.trans (hb.mono BW.out.size))
      have D3 := Lib.hid (HB.out.trans (hb.mono HB.out.size))
      clear hb BW HB LTW RC
      cases o2 with
      | none =>
        have NN := Lib.hid (NX.out rfl)
        clear NX HIT
        go_upto_region 5 with (refine Row.wpList_store_new rfl 49 _ _ rfl u1 _ #[I 0, I 0] rfl rfl rfl infoF rfl (by simp [Value.oneCell']) ?_)
        have hg := Row.lies_new u1 #[I 0, I 0] 49
        have HL : Hid (Lies (u1.alloc (.cells #[I 0, I 0] 49)) ⟨u1.heap.size, 0, none⟩ #[I 0, I 0].toList) := Lib.hid hg
        have F0 : Hid (Below w.heap.size w (u1.alloc (.cells #[I 0, I 0] 49))) := Lib.hid (D0.out.alloc D0.out.size _)
        have F3 : Hid (Below W2.heap.size W2 (u1.alloc (.cells #[I 0, I 0] 49))) := Lib.hid (D3.out.alloc D3.out.size _)
        clear hg D0 D3
        generalize u1.alloc (.cells #[I 0, I 0] 49) = u2 at HL F0 F3 ⊢
        generalize u1.heap.size = b2 at HL ⊢
        have EQ := Lib.hid (show Eqs 49 [I 0, I 0] [I 0, I 0] true from fault_eqs 0 0 0 0)
        go_wp2_with (first | (refine Row.wpList_load_g 49 _ rfl (by first | rfl | go_simp) ⟨b2, 0, none⟩ rfl [I 0, I 0] _ HL.out Try.underlying49 rfl infoF ?_) | (refine Row.wpList_neq 49 _ _ _ rfl (by rfl) #[I 0, I 0] #[I 0, I 0] rfl rfl guardF true EQ.out ?_))
        (try go_wp2)
        go_roundw
        case rel => exact ⟨2 + 1, by omega, by go_num, NN.out, F3.out⟩
        case measure => simp [intOf]
      | some p =>
        have CP := Lib.hid (HIT.out p rfl)
        clear NX HIT
        go_upto_region 5 with (refine Row.wpList_store_new rfl 49 _ _ rfl u1 _ #[I 8, I p] rfl rfl rfl infoF rfl (by simp [Value.oneCell']) ?_)
        have hg := Row.lies_new u1 #[I 8, I p] 49
        have HL : Hid (Lies (u1.alloc (.cells #[I 8, I p] 49)) ⟨u1.heap.size, 0, none⟩ #[I 8, I p].toList) := Lib.hid hg
        have F0 : Hid (Below w.heap.size w (u1.alloc (.cells #[I 8, I p] 49))) := Lib.hid (D0.out.alloc D0.out.size _)
        have F3 : Hid (Below W2.heap.size W2 (u1.alloc (.cells #[I 8, I p] 49))) := Lib.hid (D3.out.alloc D3.out.size _)
        clear hg D0 D3
        generalize u1.alloc (.cells #[I 8, I p] 49) = u2 at HL F0 F3 ⊢
        generalize u1.heap.size = b2 at HL ⊢
        have EQ := Lib.hid (show Eqs 49 [I 8, I p] [I 0, I 0] false from by have := fault_eqs 8 p 0 0; rwa [decide_eq_false (by omega)] at this)
        have G2 : Hid (u2.heap[w.heap.size + 1]? = some (.cells #[.int .i64 0, .int .i64 0] 49 (0, 0))) := Lib.hid ((F3.out.block _ (Array.getElem?_eq_some_iff.1 C2.out).1).trans C2.out)
        have HW := Lib.hid (below_setRow F0.out (g := w.heap.size + 1) (by omega) #[I 8, I p])
        have HK := Lib.hid (setRow_heap u2 (w.heap.size + 1) _ #[I 8, I p] _ _ G2.out)
        go_wp2_with (first | (refine Row.wpList_load_g 49 _ rfl (by first | rfl | go_simp) ⟨b2, 0, none⟩ rfl [I 8, I p] _ HL.out Try.underlying49 rfl infoF ?_) | (refine Row.wpList_neq 49 _ _ _ rfl (by rfl) #[I 8, I p] #[I 0, I 0] rfl rfl guardF false EQ.out ?_) | (refine wpList_store_row rfl 49 _ _ rfl (w.heap.size + 1) #[I 8, I p] rfl rfl 49 _ G2.out infoF rfl (by simp [Value.oneCell']) ?_))
        generalize u2.setRow (w.heap.size + 1) #[I 8, I p] = uz at HW HK ⊢
        (try go_wp2_with fail)
        (try simp only [Exit.inBlock, Exit.then])
        refine bodyPost_ret (v := .agg #[I 8, I p]) ?_ rfl ⟨by rw [CP.out]; rfl, HW.out⟩
        exact results_cell_row rfl _ _ (w.heap.size + 1) 49 _ (0, 0) _ rfl HK.out Try.underlying49 rfl infoF
    · rw [show ((3 : Nat) : Int) = (3 : Int) from rfl]
      have ix := idx8_3 (.func (.func 77) #[] #[]) (.func (.func 109) #[] #[.pointer (some ⟨n + 1 + 1, 0, none⟩), .pointer (some ⟨n + 1, 0, none⟩)]) (.func (.func 80) #[] #[]) (.func (.func 109) #[] #[.pointer (some ⟨n + 3 + 1, 0, none⟩), .pointer (some ⟨n + 3, 0, none⟩)]) (.func (.func 116) #[] #[.pointer (some ⟨n + 5 + 1, 0, none⟩), .pointer (some ⟨n + 5 + 1 + 1, 0, none⟩), .pointer (some ⟨n + 5, 0, none⟩)]) (.func (.func 117) #[] #[.pointer (some ⟨n + 8 + 1, 0, none⟩), .pointer (some ⟨n + 8 + 1 + 1, 0, none⟩), .pointer (some ⟨n + 8, 0, none⟩)]) (.func (.func 122) #[] #[.pointer (some ⟨n + 11 + 1, 0, none⟩), .pointer (some ⟨n + 11 + 1 + 1, 0, none⟩), .pointer (some ⟨n + 11, 0, none⟩)]) (.func (.func 109) #[] #[.pointer (some ⟨n + 14 + 1, 0, none⟩), .pointer (some ⟨n + 14, 0, none⟩)])
      have NX : Hid (o3 = none → ∀ (i : Nat) x, i < 3 + 1 → l[i]? = some x → x.2 = none) := Lib.hid (fun e i x hi hx => by
        by_cases hij : i = 3
        · subst hij; obtain rfl := Option.some.inj (hx.symm.trans LL3.out); exact e
        · exact HA.out i x (by omega) hx)
      have HIT : Hid (∀ p, o3 = some p → ck = (9, p)) := Lib.hid (fun p e => by rw [CK.out]; exact first_hit (q := 3) (by rw [LL3.out, e]) HA.out)
      have RC := Lib.hid (RU3.out n _ BW.out LIW.out)
      clear RU0 RU1 RU2 RU3 RU4 RU5 RU6 RU7 LL0 LL1 LL2 LL3 LL4 LL5 LL6 LL7 LE HA LIW
      go_wp2_with (refine Row.wpList_load_g 32 _ rfl (by first | rfl | go_simp) ⟨w.heap.size, 0, none⟩ rfl c _ LTW.out Try.underlying32 rfl IA.out ?_)
      (try go_wp2_with fail)
      clear ix
      refine RC.out.mono ?_
      rintro e u1 ⟨rfl, hb⟩
      have D0 : Hid (Below w.heap.size w u1) := Lib.hid (BW.out.trans (hb.mono BW.out.size))
      have D3 := Lib.hid (HB.out.trans (hb.mono HB.out.size))
      clear hb BW HB LTW RC
      cases o3 with
      | none =>
        have NN := Lib.hid (NX.out rfl)
        clear NX HIT
        go_upto_region 5 with (refine Row.wpList_store_new rfl 49 _ _ rfl u1 _ #[I 0, I 0] rfl rfl rfl infoF rfl (by simp [Value.oneCell']) ?_)
        have hg := Row.lies_new u1 #[I 0, I 0] 49
        have HL : Hid (Lies (u1.alloc (.cells #[I 0, I 0] 49)) ⟨u1.heap.size, 0, none⟩ #[I 0, I 0].toList) := Lib.hid hg
        have F0 : Hid (Below w.heap.size w (u1.alloc (.cells #[I 0, I 0] 49))) := Lib.hid (D0.out.alloc D0.out.size _)
        have F3 : Hid (Below W2.heap.size W2 (u1.alloc (.cells #[I 0, I 0] 49))) := Lib.hid (D3.out.alloc D3.out.size _)
        clear hg D0 D3
        generalize u1.alloc (.cells #[I 0, I 0] 49) = u2 at HL F0 F3 ⊢
        generalize u1.heap.size = b2 at HL ⊢
        have EQ := Lib.hid (show Eqs 49 [I 0, I 0] [I 0, I 0] true from fault_eqs 0 0 0 0)
        go_wp2_with (first | (refine Row.wpList_load_g 49 _ rfl (by first | rfl | go_simp) ⟨b2, 0, none⟩ rfl [I 0, I 0] _ HL.out Try.underlying49 rfl infoF ?_) | (refine Row.wpList_neq 49 _ _ _ rfl (by rfl) #[I 0, I 0] #[I 0, I 0] rfl rfl guardF true EQ.out ?_))
        (try go_wp2)
        go_roundw
        case rel => exact ⟨3 + 1, by omega, by go_num, NN.out, F3.out⟩
        case measure => simp [intOf]
      | some p =>
        have CP := Lib.hid (HIT.out p rfl)
        clear NX HIT
        go_upto_region 5 with (refine Row.wpList_store_new rfl 49 _ _ rfl u1 _ #[I 9, I p] rfl rfl rfl infoF rfl (by simp [Value.oneCell']) ?_)
        have hg := Row.lies_new u1 #[I 9, I p] 49
        have HL : Hid (Lies (u1.alloc (.cells #[I 9, I p] 49)) ⟨u1.heap.size, 0, none⟩ #[I 9, I p].toList) := Lib.hid hg
        have F0 : Hid (Below w.heap.size w (u1.alloc (.cells #[I 9, I p] 49))) := Lib.hid (D0.out.alloc D0.out.size _)
        have F3 : Hid (Below W2.heap.size W2 (u1.alloc (.cells #[I 9, I p] 49))) := Lib.hid (D3.out.alloc D3.out.size _)
        clear hg D0 D3
        generalize u1.alloc (.cells #[I 9, I p] 49) = u2 at HL F0 F3 ⊢
        generalize u1.heap.size = b2 at HL ⊢
        have EQ := Lib.hid (show Eqs 49 [I 9, I p] [I 0, I 0] false from by have := fault_eqs 9 p 0 0; rwa [decide_eq_false (by omega)] at this)
        have G2 : Hid (u2.heap[w.heap.size + 1]? = some (.cells #[.int .i64 0, .int .i64 0] 49 (0, 0))) := Lib.hid ((F3.out.block _ (Array.getElem?_eq_some_iff.1 C2.out).1).trans C2.out)
        have HW := Lib.hid (below_setRow F0.out (g := w.heap.size + 1) (by omega) #[I 9, I p])
        have HK := Lib.hid (setRow_heap u2 (w.heap.size + 1) _ #[I 9, I p] _ _ G2.out)
        go_wp2_with (first | (refine Row.wpList_load_g 49 _ rfl (by first | rfl | go_simp) ⟨b2, 0, none⟩ rfl [I 9, I p] _ HL.out Try.underlying49 rfl infoF ?_) | (refine Row.wpList_neq 49 _ _ _ rfl (by rfl) #[I 9, I p] #[I 0, I 0] rfl rfl guardF false EQ.out ?_) | (refine wpList_store_row rfl 49 _ _ rfl (w.heap.size + 1) #[I 9, I p] rfl rfl 49 _ G2.out infoF rfl (by simp [Value.oneCell']) ?_))
        generalize u2.setRow (w.heap.size + 1) #[I 9, I p] = uz at HW HK ⊢
        (try go_wp2_with fail)
        (try simp only [Exit.inBlock, Exit.then])
        refine bodyPost_ret (v := .agg #[I 9, I p]) ?_ rfl ⟨by rw [CP.out]; rfl, HW.out⟩
        exact results_cell_row rfl _ _ (w.heap.size + 1) 49 _ (0, 0) _ rfl HK.out Try.underlying49 rfl infoF
    · rw [show ((4 : Nat) : Int) = (4 : Int) from rfl]
      have ix := idx8_4 (.func (.func 77) #[] #[]) (.func (.func 109) #[] #[.pointer (some ⟨n + 1 + 1, 0, none⟩), .pointer (some ⟨n + 1, 0, none⟩)]) (.func (.func 80) #[] #[]) (.func (.func 109) #[] #[.pointer (some ⟨n + 3 + 1, 0, none⟩), .pointer (some ⟨n + 3, 0, none⟩)]) (.func (.func 116) #[] #[.pointer (some ⟨n + 5 + 1, 0, none⟩), .pointer (some ⟨n + 5 + 1 + 1, 0, none⟩), .pointer (some ⟨n + 5, 0, none⟩)]) (.func (.func 117) #[] #[.pointer (some ⟨n + 8 + 1, 0, none⟩), .pointer (some ⟨n + 8 + 1 + 1, 0, none⟩), .pointer (some ⟨n + 8, 0, none⟩)]) (.func (.func 122) #[] #[.pointer (some ⟨n + 11 + 1, 0, none⟩), .pointer (some ⟨n + 11 + 1 + 1, 0, none⟩), .pointer (some ⟨n + 11, 0, none⟩)]) (.func (.func 109) #[] #[.pointer (some ⟨n + 14 + 1, 0, none⟩), .pointer (some ⟨n + 14, 0, none⟩)])
      have NX : Hid (o4 = none → ∀ (i : Nat) x, i < 4 + 1 → l[i]? = some x → x.2 = none) := Lib.hid (fun e i x hi hx => by
        by_cases hij : i = 4
        · subst hij; obtain rfl := Option.some.inj (hx.symm.trans LL4.out); exact e
        · exact HA.out i x (by omega) hx)
      have HIT : Hid (∀ p, o4 = some p → ck = (10, p)) := Lib.hid (fun p e => by rw [CK.out]; exact first_hit (q := 4) (by rw [LL4.out, e]) HA.out)
      have RC := Lib.hid (RU4.out (HA.out 0 _ (by omega) LL0.out) n _ BW.out LIW.out)
      clear RU0 RU1 RU2 RU3 RU4 RU5 RU6 RU7 LL0 LL1 LL2 LL3 LL4 LL5 LL6 LL7 LE HA LIW
      go_wp2_with (refine Row.wpList_load_g 32 _ rfl (by first | rfl | go_simp) ⟨w.heap.size, 0, none⟩ rfl c _ LTW.out Try.underlying32 rfl IA.out ?_)
      (try go_wp2_with fail)
      clear ix
      refine RC.out.mono ?_
      rintro e u1 ⟨rfl, hb⟩
      have D0 : Hid (Below w.heap.size w u1) := Lib.hid (BW.out.trans (hb.mono BW.out.size))
      have D3 := Lib.hid (HB.out.trans (hb.mono HB.out.size))
      clear hb BW HB LTW RC
      cases o4 with
      | none =>
        have NN := Lib.hid (NX.out rfl)
        clear NX HIT
        go_upto_region 5 with (refine Row.wpList_store_new rfl 49 _ _ rfl u1 _ #[I 0, I 0] rfl rfl rfl infoF rfl (by simp [Value.oneCell']) ?_)
        have hg := Row.lies_new u1 #[I 0, I 0] 49
        have HL : Hid (Lies (u1.alloc (.cells #[I 0, I 0] 49)) ⟨u1.heap.size, 0, none⟩ #[I 0, I 0].toList) := Lib.hid hg
        have F0 : Hid (Below w.heap.size w (u1.alloc (.cells #[I 0, I 0] 49))) := Lib.hid (D0.out.alloc D0.out.size _)
        have F3 : Hid (Below W2.heap.size W2 (u1.alloc (.cells #[I 0, I 0] 49))) := Lib.hid (D3.out.alloc D3.out.size _)
        clear hg D0 D3
        generalize u1.alloc (.cells #[I 0, I 0] 49) = u2 at HL F0 F3 ⊢
        generalize u1.heap.size = b2 at HL ⊢
        have EQ := Lib.hid (show Eqs 49 [I 0, I 0] [I 0, I 0] true from fault_eqs 0 0 0 0)
        go_wp2_with (first | (refine Row.wpList_load_g 49 _ rfl (by first | rfl | go_simp) ⟨b2, 0, none⟩ rfl [I 0, I 0] _ HL.out Try.underlying49 rfl infoF ?_) | (refine Row.wpList_neq 49 _ _ _ rfl (by rfl) #[I 0, I 0] #[I 0, I 0] rfl rfl guardF true EQ.out ?_))
        (try go_wp2)
        go_roundw
        case rel => exact ⟨4 + 1, by omega, by go_num, NN.out, F3.out⟩
        case measure => simp [intOf]
      | some p =>
        have CP := Lib.hid (HIT.out p rfl)
        clear NX HIT
        go_upto_region 5 with (refine Row.wpList_store_new rfl 49 _ _ rfl u1 _ #[I 10, I p] rfl rfl rfl infoF rfl (by simp [Value.oneCell']) ?_)
        have hg := Row.lies_new u1 #[I 10, I p] 49
        have HL : Hid (Lies (u1.alloc (.cells #[I 10, I p] 49)) ⟨u1.heap.size, 0, none⟩ #[I 10, I p].toList) := Lib.hid hg
        have F0 : Hid (Below w.heap.size w (u1.alloc (.cells #[I 10, I p] 49))) := Lib.hid (D0.out.alloc D0.out.size _)
        have F3 : Hid (Below W2.heap.size W2 (u1.alloc (.cells #[I 10, I p] 49))) := Lib.hid (D3.out.alloc D3.out.size _)
        clear hg D0 D3
        generalize u1.alloc (.cells #[I 10, I p] 49) = u2 at HL F0 F3 ⊢
        generalize u1.heap.size = b2 at HL ⊢
        have EQ := Lib.hid (show Eqs 49 [I 10, I p] [I 0, I 0] false from by have := fault_eqs 10 p 0 0; rwa [decide_eq_false (by omega)] at this)
        have G2 : Hid (u2.heap[w.heap.size + 1]? = some (.cells #[.int .i64 0, .int .i64 0] 49 (0, 0))) := Lib.hid ((F3.out.block _ (Array.getElem?_eq_some_iff.1 C2.out).1).trans C2.out)
        have HW := Lib.hid (below_setRow F0.out (g := w.heap.size + 1) (by omega) #[I 10, I p])
        have HK := Lib.hid (setRow_heap u2 (w.heap.size + 1) _ #[I 10, I p] _ _ G2.out)
        go_wp2_with (first | (refine Row.wpList_load_g 49 _ rfl (by first | rfl | go_simp) ⟨b2, 0, none⟩ rfl [I 10, I p] _ HL.out Try.underlying49 rfl infoF ?_) | (refine Row.wpList_neq 49 _ _ _ rfl (by rfl) #[I 10, I p] #[I 0, I 0] rfl rfl guardF false EQ.out ?_) | (refine wpList_store_row rfl 49 _ _ rfl (w.heap.size + 1) #[I 10, I p] rfl rfl 49 _ G2.out infoF rfl (by simp [Value.oneCell']) ?_))
        generalize u2.setRow (w.heap.size + 1) #[I 10, I p] = uz at HW HK ⊢
        (try go_wp2_with fail)
        (try simp only [Exit.inBlock, Exit.then])
        refine bodyPost_ret (v := .agg #[I 10, I p]) ?_ rfl ⟨by rw [CP.out]; rfl, HW.out⟩
        exact results_cell_row rfl _ _ (w.heap.size + 1) 49 _ (0, 0) _ rfl HK.out Try.underlying49 rfl infoF
    · rw [show ((5 : Nat) : Int) = (5 : Int) from rfl]
      have ix := idx8_5 (.func (.func 77) #[] #[]) (.func (.func 109) #[] #[.pointer (some ⟨n + 1 + 1, 0, none⟩), .pointer (some ⟨n + 1, 0, none⟩)]) (.func (.func 80) #[] #[]) (.func (.func 109) #[] #[.pointer (some ⟨n + 3 + 1, 0, none⟩), .pointer (some ⟨n + 3, 0, none⟩)]) (.func (.func 116) #[] #[.pointer (some ⟨n + 5 + 1, 0, none⟩), .pointer (some ⟨n + 5 + 1 + 1, 0, none⟩), .pointer (some ⟨n + 5, 0, none⟩)]) (.func (.func 117) #[] #[.pointer (some ⟨n + 8 + 1, 0, none⟩), .pointer (some ⟨n + 8 + 1 + 1, 0, none⟩), .pointer (some ⟨n + 8, 0, none⟩)]) (.func (.func 122) #[] #[.pointer (some ⟨n + 11 + 1, 0, none⟩), .pointer (some ⟨n + 11 + 1 + 1, 0, none⟩), .pointer (some ⟨n + 11, 0, none⟩)]) (.func (.func 109) #[] #[.pointer (some ⟨n + 14 + 1, 0, none⟩), .pointer (some ⟨n + 14, 0, none⟩)])
      have NX : Hid (o5 = none → ∀ (i : Nat) x, i < 5 + 1 → l[i]? = some x → x.2 = none) := Lib.hid (fun e i x hi hx => by
        by_cases hij : i = 5
        · subst hij; obtain rfl := Option.some.inj (hx.symm.trans LL5.out); exact e
        · exact HA.out i x (by omega) hx)
      have HIT : Hid (∀ p, o5 = some p → ck = (11, p)) := Lib.hid (fun p e => by rw [CK.out]; exact first_hit (q := 5) (by rw [LL5.out, e]) HA.out)
      have RC := Lib.hid (RU5.out n _ BW.out LIW.out)
      clear RU0 RU1 RU2 RU3 RU4 RU5 RU6 RU7 LL0 LL1 LL2 LL3 LL4 LL5 LL6 LL7 LE HA LIW
      go_wp2_with (refine Row.wpList_load_g 32 _ rfl (by first | rfl | go_simp) ⟨w.heap.size, 0, none⟩ rfl c _ LTW.out Try.underlying32 rfl IA.out ?_)
      (try go_wp2_with fail)
      clear ix
      refine RC.out.mono ?_
      rintro e u1 ⟨rfl, hb⟩
      have D0 : Hid (Below w.heap.size w u1) := Lib.hid (BW.out.trans (hb.mono BW.out.size))
      have D3 := Lib.hid (HB.out.trans (hb.mono HB.out.size))
      clear hb BW HB LTW RC
      cases o5 with
      | none =>
        have NN := Lib.hid (NX.out rfl)
        clear NX HIT
        go_upto_region 5 with (refine Row.wpList_store_new rfl 49 _ _ rfl u1 _ #[I 0, I 0] rfl rfl rfl infoF rfl (by simp [Value.oneCell']) ?_)
        have hg := Row.lies_new u1 #[I 0, I 0] 49
        have HL : Hid (Lies (u1.alloc (.cells #[I 0, I 0] 49)) ⟨u1.heap.size, 0, none⟩ #[I 0, I 0].toList) := Lib.hid hg
        have F0 : Hid (Below w.heap.size w (u1.alloc (.cells #[I 0, I 0] 49))) := Lib.hid (D0.out.alloc D0.out.size _)
        have F3 : Hid (Below W2.heap.size W2 (u1.alloc (.cells #[I 0, I 0] 49))) := Lib.hid (D3.out.alloc D3.out.size _)
        clear hg D0 D3
        generalize u1.alloc (.cells #[I 0, I 0] 49) = u2 at HL F0 F3 ⊢
        generalize u1.heap.size = b2 at HL ⊢
        have EQ := Lib.hid (show Eqs 49 [I 0, I 0] [I 0, I 0] true from fault_eqs 0 0 0 0)
        go_wp2_with (first | (refine Row.wpList_load_g 49 _ rfl (by first | rfl | go_simp) ⟨b2, 0, none⟩ rfl [I 0, I 0] _ HL.out Try.underlying49 rfl infoF ?_) | (refine Row.wpList_neq 49 _ _ _ rfl (by rfl) #[I 0, I 0] #[I 0, I 0] rfl rfl guardF true EQ.out ?_))
        (try go_wp2)
        go_roundw
        case rel => exact ⟨5 + 1, by omega, by go_num, NN.out, F3.out⟩
        case measure => simp [intOf]
      | some p =>
        have CP := Lib.hid (HIT.out p rfl)
        clear NX HIT
        go_upto_region 5 with (refine Row.wpList_store_new rfl 49 _ _ rfl u1 _ #[I 11, I p] rfl rfl rfl infoF rfl (by simp [Value.oneCell']) ?_)
        have hg := Row.lies_new u1 #[I 11, I p] 49
        have HL : Hid (Lies (u1.alloc (.cells #[I 11, I p] 49)) ⟨u1.heap.size, 0, none⟩ #[I 11, I p].toList) := Lib.hid hg
        have F0 : Hid (Below w.heap.size w (u1.alloc (.cells #[I 11, I p] 49))) := Lib.hid (D0.out.alloc D0.out.size _)
        have F3 : Hid (Below W2.heap.size W2 (u1.alloc (.cells #[I 11, I p] 49))) := Lib.hid (D3.out.alloc D3.out.size _)
        clear hg D0 D3
        generalize u1.alloc (.cells #[I 11, I p] 49) = u2 at HL F0 F3 ⊢
        generalize u1.heap.size = b2 at HL ⊢
        have EQ := Lib.hid (show Eqs 49 [I 11, I p] [I 0, I 0] false from by have := fault_eqs 11 p 0 0; rwa [decide_eq_false (by omega)] at this)
        have G2 : Hid (u2.heap[w.heap.size + 1]? = some (.cells #[.int .i64 0, .int .i64 0] 49 (0, 0))) := Lib.hid ((F3.out.block _ (Array.getElem?_eq_some_iff.1 C2.out).1).trans C2.out)
        have HW := Lib.hid (below_setRow F0.out (g := w.heap.size + 1) (by omega) #[I 11, I p])
        have HK := Lib.hid (setRow_heap u2 (w.heap.size + 1) _ #[I 11, I p] _ _ G2.out)
        go_wp2_with (first | (refine Row.wpList_load_g 49 _ rfl (by first | rfl | go_simp) ⟨b2, 0, none⟩ rfl [I 11, I p] _ HL.out Try.underlying49 rfl infoF ?_) | (refine Row.wpList_neq 49 _ _ _ rfl (by rfl) #[I 11, I p] #[I 0, I 0] rfl rfl guardF false EQ.out ?_) | (refine wpList_store_row rfl 49 _ _ rfl (w.heap.size + 1) #[I 11, I p] rfl rfl 49 _ G2.out infoF rfl (by simp [Value.oneCell']) ?_))
        generalize u2.setRow (w.heap.size + 1) #[I 11, I p] = uz at HW HK ⊢
        (try go_wp2_with fail)
        (try simp only [Exit.inBlock, Exit.then])
        refine bodyPost_ret (v := .agg #[I 11, I p]) ?_ rfl ⟨by rw [CP.out]; rfl, HW.out⟩
        exact results_cell_row rfl _ _ (w.heap.size + 1) 49 _ (0, 0) _ rfl HK.out Try.underlying49 rfl infoF
    · rw [show ((6 : Nat) : Int) = (6 : Int) from rfl]
      have ix := idx8_6 (.func (.func 77) #[] #[]) (.func (.func 109) #[] #[.pointer (some ⟨n + 1 + 1, 0, none⟩), .pointer (some ⟨n + 1, 0, none⟩)]) (.func (.func 80) #[] #[]) (.func (.func 109) #[] #[.pointer (some ⟨n + 3 + 1, 0, none⟩), .pointer (some ⟨n + 3, 0, none⟩)]) (.func (.func 116) #[] #[.pointer (some ⟨n + 5 + 1, 0, none⟩), .pointer (some ⟨n + 5 + 1 + 1, 0, none⟩), .pointer (some ⟨n + 5, 0, none⟩)]) (.func (.func 117) #[] #[.pointer (some ⟨n + 8 + 1, 0, none⟩), .pointer (some ⟨n + 8 + 1 + 1, 0, none⟩), .pointer (some ⟨n + 8, 0, none⟩)]) (.func (.func 122) #[] #[.pointer (some ⟨n + 11 + 1, 0, none⟩), .pointer (some ⟨n + 11 + 1 + 1, 0, none⟩), .pointer (some ⟨n + 11, 0, none⟩)]) (.func (.func 109) #[] #[.pointer (some ⟨n + 14 + 1, 0, none⟩), .pointer (some ⟨n + 14, 0, none⟩)])
      have NX : Hid (o6 = none → ∀ (i : Nat) x, i < 6 + 1 → l[i]? = some x → x.2 = none) := Lib.hid (fun e i x hi hx => by
        by_cases hij : i = 6
        · subst hij; obtain rfl := Option.some.inj (hx.symm.trans LL6.out); exact e
        · exact HA.out i x (by omega) hx)
      have HIT : Hid (∀ p, o6 = some p → ck = (12, p)) := Lib.hid (fun p e => by rw [CK.out]; exact first_hit (q := 6) (by rw [LL6.out, e]) HA.out)
      have RC := Lib.hid (RU6.out n _ BW.out LIW.out)
      clear RU0 RU1 RU2 RU3 RU4 RU5 RU6 RU7 LL0 LL1 LL2 LL3 LL4 LL5 LL6 LL7 LE HA LIW
      go_wp2_with (refine Row.wpList_load_g 32 _ rfl (by first | rfl | go_simp) ⟨w.heap.size, 0, none⟩ rfl c _ LTW.out Try.underlying32 rfl IA.out ?_)
      (try go_wp2_with fail)
      clear ix
      refine RC.out.mono ?_
      rintro e u1 ⟨rfl, hb⟩
      have D0 : Hid (Below w.heap.size w u1) := Lib.hid (BW.out.trans (hb.mono BW.out.size))
      have D3 := Lib.hid (HB.out.trans (hb.mono HB.out.size))
      clear hb BW HB LTW RC
      cases o6 with
      | none =>
        have NN := Lib.hid (NX.out rfl)
        clear NX HIT
        go_upto_region 5 with (refine Row.wpList_store_new rfl 49 _ _ rfl u1 _ #[I 0, I 0] rfl rfl rfl infoF rfl (by simp [Value.oneCell']) ?_)
        have hg := Row.lies_new u1 #[I 0, I 0] 49
        have HL : Hid (Lies (u1.alloc (.cells #[I 0, I 0] 49)) ⟨u1.heap.size, 0, none⟩ #[I 0, I 0].toList) := Lib.hid hg
        have F0 : Hid (Below w.heap.size w (u1.alloc (.cells #[I 0, I 0] 49))) := Lib.hid (D0.out.alloc D0.out.size _)
        have F3 : Hid (Below W2.heap.size W2 (u1.alloc (.cells #[I 0, I 0] 49))) := Lib.hid (D3.out.alloc D3.out.size _)
        clear hg D0 D3
        generalize u1.alloc (.cells #[I 0, I 0] 49) = u2 at HL F0 F3 ⊢
        generalize u1.heap.size = b2 at HL ⊢
        have EQ := Lib.hid (show Eqs 49 [I 0, I 0] [I 0, I 0] true from fault_eqs 0 0 0 0)
        go_wp2_with (first | (refine Row.wpList_load_g 49 _ rfl (by first | rfl | go_simp) ⟨b2, 0, none⟩ rfl [I 0, I 0] _ HL.out Try.underlying49 rfl infoF ?_) | (refine Row.wpList_neq 49 _ _ _ rfl (by rfl) #[I 0, I 0] #[I 0, I 0] rfl rfl guardF true EQ.out ?_))
        (try go_wp2)
        go_roundw
        case rel => exact ⟨6 + 1, by omega, by go_num, NN.out, F3.out⟩
        case measure => simp [intOf]
      | some p =>
        have CP := Lib.hid (HIT.out p rfl)
        clear NX HIT
        go_upto_region 5 with (refine Row.wpList_store_new rfl 49 _ _ rfl u1 _ #[I 12, I p] rfl rfl rfl infoF rfl (by simp [Value.oneCell']) ?_)
        have hg := Row.lies_new u1 #[I 12, I p] 49
        have HL : Hid (Lies (u1.alloc (.cells #[I 12, I p] 49)) ⟨u1.heap.size, 0, none⟩ #[I 12, I p].toList) := Lib.hid hg
        have F0 : Hid (Below w.heap.size w (u1.alloc (.cells #[I 12, I p] 49))) := Lib.hid (D0.out.alloc D0.out.size _)
        have F3 : Hid (Below W2.heap.size W2 (u1.alloc (.cells #[I 12, I p] 49))) := Lib.hid (D3.out.alloc D3.out.size _)
        clear hg D0 D3
        generalize u1.alloc (.cells #[I 12, I p] 49) = u2 at HL F0 F3 ⊢
        generalize u1.heap.size = b2 at HL ⊢
        have EQ := Lib.hid (show Eqs 49 [I 12, I p] [I 0, I 0] false from by have := fault_eqs 12 p 0 0; rwa [decide_eq_false (by omega)] at this)
        have G2 : Hid (u2.heap[w.heap.size + 1]? = some (.cells #[.int .i64 0, .int .i64 0] 49 (0, 0))) := Lib.hid ((F3.out.block _ (Array.getElem?_eq_some_iff.1 C2.out).1).trans C2.out)
        have HW := Lib.hid (below_setRow F0.out (g := w.heap.size + 1) (by omega) #[I 12, I p])
        have HK := Lib.hid (setRow_heap u2 (w.heap.size + 1) _ #[I 12, I p] _ _ G2.out)
        go_wp2_with (first | (refine Row.wpList_load_g 49 _ rfl (by first | rfl | go_simp) ⟨b2, 0, none⟩ rfl [I 12, I p] _ HL.out Try.underlying49 rfl infoF ?_) | (refine Row.wpList_neq 49 _ _ _ rfl (by rfl) #[I 12, I p] #[I 0, I 0] rfl rfl guardF false EQ.out ?_) | (refine wpList_store_row rfl 49 _ _ rfl (w.heap.size + 1) #[I 12, I p] rfl rfl 49 _ G2.out infoF rfl (by simp [Value.oneCell']) ?_))
        generalize u2.setRow (w.heap.size + 1) #[I 12, I p] = uz at HW HK ⊢
        (try go_wp2_with fail)
        (try simp only [Exit.inBlock, Exit.then])
        refine bodyPost_ret (v := .agg #[I 12, I p]) ?_ rfl ⟨by rw [CP.out]; rfl, HW.out⟩
        exact results_cell_row rfl _ _ (w.heap.size + 1) 49 _ (0, 0) _ rfl HK.out Try.underlying49 rfl infoF
    · rw [show ((7 : Nat) : Int) = (7 : Int) from rfl]
      have ix := idx8_7 (.func (.func 77) #[] #[]) (.func (.func 109) #[] #[.pointer (some ⟨n + 1 + 1, 0, none⟩), .pointer (some ⟨n + 1, 0, none⟩)]) (.func (.func 80) #[] #[]) (.func (.func 109) #[] #[.pointer (some ⟨n + 3 + 1, 0, none⟩), .pointer (some ⟨n + 3, 0, none⟩)]) (.func (.func 116) #[] #[.pointer (some ⟨n + 5 + 1, 0, none⟩), .pointer (some ⟨n + 5 + 1 + 1, 0, none⟩), .pointer (some ⟨n + 5, 0, none⟩)]) (.func (.func 117) #[] #[.pointer (some ⟨n + 8 + 1, 0, none⟩), .pointer (some ⟨n + 8 + 1 + 1, 0, none⟩), .pointer (some ⟨n + 8, 0, none⟩)]) (.func (.func 122) #[] #[.pointer (some ⟨n + 11 + 1, 0, none⟩), .pointer (some ⟨n + 11 + 1 + 1, 0, none⟩), .pointer (some ⟨n + 11, 0, none⟩)]) (.func (.func 109) #[] #[.pointer (some ⟨n + 14 + 1, 0, none⟩), .pointer (some ⟨n + 14, 0, none⟩)])
      have NX : Hid (o7 = none → ∀ (i : Nat) x, i < 7 + 1 → l[i]? = some x → x.2 = none) := Lib.hid (fun e i x hi hx => by
        by_cases hij : i = 7
        · subst hij; obtain rfl := Option.some.inj (hx.symm.trans LL7.out); exact e
        · exact HA.out i x (by omega) hx)
      have HIT : Hid (∀ p, o7 = some p → ck = (13, p)) := Lib.hid (fun p e => by rw [CK.out]; exact first_hit (q := 7) (by rw [LL7.out, e]) HA.out)
      have RC := Lib.hid (RU7.out n _ BW.out LIW.out)
      clear RU0 RU1 RU2 RU3 RU4 RU5 RU6 RU7 LL0 LL1 LL2 LL3 LL4 LL5 LL6 LL7 LE HA LIW
      go_wp2_with (refine Row.wpList_load_g 32 _ rfl (by first | rfl | go_simp) ⟨w.heap.size, 0, none⟩ rfl c _ LTW.out Try.underlying32 rfl IA.out ?_)
      (try go_wp2_with fail)
      clear ix
      refine RC.out.mono ?_
      rintro e u1 ⟨rfl, hb⟩
      have D0 : Hid (Below w.heap.size w u1) := Lib.hid (BW.out.trans (hb.mono BW.out.size))
      have D3 := Lib.hid (HB.out.trans (hb.mono HB.out.size))
      clear hb BW HB LTW RC
      cases o7 with
      | none =>
        have NN := Lib.hid (NX.out rfl)
        clear NX HIT
        go_upto_region 5 with (refine Row.wpList_store_new rfl 49 _ _ rfl u1 _ #[I 0, I 0] rfl rfl rfl infoF rfl (by simp [Value.oneCell']) ?_)
        have hg := Row.lies_new u1 #[I 0, I 0] 49
        have HL : Hid (Lies (u1.alloc (.cells #[I 0, I 0] 49)) ⟨u1.heap.size, 0, none⟩ #[I 0, I 0].toList) := Lib.hid hg
        have F0 : Hid (Below w.heap.size w (u1.alloc (.cells #[I 0, I 0] 49))) := Lib.hid (D0.out.alloc D0.out.size _)
        have F3 : Hid (Below W2.heap.size W2 (u1.alloc (.cells #[I 0, I 0] 49))) := Lib.hid (D3.out.alloc D3.out.size _)
        clear hg D0 D3
        generalize u1.alloc (.cells #[I 0, I 0] 49) = u2 at HL F0 F3 ⊢
        generalize u1.heap.size = b2 at HL ⊢
        have EQ := Lib.hid (show Eqs 49 [I 0, I 0] [I 0, I 0] true from fault_eqs 0 0 0 0)
        go_wp2_with (first | (refine Row.wpList_load_g 49 _ rfl (by first | rfl | go_simp) ⟨b2, 0, none⟩ rfl [I 0, I 0] _ HL.out Try.underlying49 rfl infoF ?_) | (refine Row.wpList_neq 49 _ _ _ rfl (by rfl) #[I 0, I 0] #[I 0, I 0] rfl rfl guardF true EQ.out ?_))
        (try go_wp2)
        go_roundw
        case rel => exact ⟨7 + 1, by omega, by go_num, NN.out, F3.out⟩
        case measure => simp [intOf]
      | some p =>
        have CP := Lib.hid (HIT.out p rfl)
        clear NX HIT
        go_upto_region 5 with (refine Row.wpList_store_new rfl 49 _ _ rfl u1 _ #[I 13, I p] rfl rfl rfl infoF rfl (by simp [Value.oneCell']) ?_)
        have hg := Row.lies_new u1 #[I 13, I p] 49
        have HL : Hid (Lies (u1.alloc (.cells #[I 13, I p] 49)) ⟨u1.heap.size, 0, none⟩ #[I 13, I p].toList) := Lib.hid hg
        have F0 : Hid (Below w.heap.size w (u1.alloc (.cells #[I 13, I p] 49))) := Lib.hid (D0.out.alloc D0.out.size _)
        have F3 : Hid (Below W2.heap.size W2 (u1.alloc (.cells #[I 13, I p] 49))) := Lib.hid (D3.out.alloc D3.out.size _)
        clear hg D0 D3
        generalize u1.alloc (.cells #[I 13, I p] 49) = u2 at HL F0 F3 ⊢
        generalize u1.heap.size = b2 at HL ⊢
        have EQ := Lib.hid (show Eqs 49 [I 13, I p] [I 0, I 0] false from by have := fault_eqs 13 p 0 0; rwa [decide_eq_false (by omega)] at this)
        have G2 : Hid (u2.heap[w.heap.size + 1]? = some (.cells #[.int .i64 0, .int .i64 0] 49 (0, 0))) := Lib.hid ((F3.out.block _ (Array.getElem?_eq_some_iff.1 C2.out).1).trans C2.out)
        have HW := Lib.hid (below_setRow F0.out (g := w.heap.size + 1) (by omega) #[I 13, I p])
        have HK := Lib.hid (setRow_heap u2 (w.heap.size + 1) _ #[I 13, I p] _ _ G2.out)
        go_wp2_with (first | (refine Row.wpList_load_g 49 _ rfl (by first | rfl | go_simp) ⟨b2, 0, none⟩ rfl [I 13, I p] _ HL.out Try.underlying49 rfl infoF ?_) | (refine Row.wpList_neq 49 _ _ _ rfl (by rfl) #[I 13, I p] #[I 0, I 0] rfl rfl guardF false EQ.out ?_) | (refine wpList_store_row rfl 49 _ _ rfl (w.heap.size + 1) #[I 13, I p] rfl rfl 49 _ G2.out infoF rfl (by simp [Value.oneCell']) ?_))
        generalize u2.setRow (w.heap.size + 1) #[I 13, I p] = uz at HW HK ⊢
        (try go_wp2_with fail)
        (try simp only [Exit.inBlock, Exit.then])
        refine bodyPost_ret (v := .agg #[I 13, I p]) ?_ rfl ⟨by rw [CP.out]; rfl, HW.out⟩
        exact results_cell_row rfl _ _ (w.heap.size + 1) 49 _ (0, 0) _ rfl HK.out Try.underlying49 rfl infoF
    · rw [show ((8 : Nat) : Int) = (8 : Int) from rfl]
      have RO := Lib.hid (show ck = (0, 0) by rw [CK.out]; exact first_miss (fun x hx => by obtain ⟨j, hj, rfl⟩ := List.getElem_of_mem hx; have h1 := List.getElem?_eq_getElem hj; exact HA.out j _ (LE.out j _ h1) h1))
      have G2 : Hid (wr.heap[w.heap.size + 1]? = some (.cells #[.int .i64 0, .int .i64 0] 49 (0, 0))) := Lib.hid ((HB.out.block _ (Array.getElem?_eq_some_iff.1 C2.out).1).trans C2.out)
      clear RU0 RU1 RU2 RU3 RU4 RU5 RU6 RU7 LL0 LL1 LL2 LL3 LL4 LL5 LL6 LL7 LE HA LIW
      have HW := Lib.hid (below_setRow BW.out (g := w.heap.size + 1) (by omega) #[.int .i64 0, .int .i64 0])
      have HK := Lib.hid (setRow_heap wr (w.heap.size + 1) _ #[.int .i64 0, .int .i64 0] _ _ G2.out)
      go_wp2_with (first | (refine wpList_store_row rfl 49 _ _ rfl (w.heap.size + 1) #[.int .i64 0, .int .i64 0] rfl rfl 49 _ G2.out infoF rfl (by simp [Value.oneCell']) ?_))
      generalize wr.setRow (w.heap.size + 1) #[.int .i64 0, .int .i64 0] = uz at HW HK ⊢
      (try go_wp2_with fail)
      (try simp only [Exit.inBlock, Exit.then])
      refine bodyPost_ret (v := .agg #[.int .i64 0, .int .i64 0]) ?_ rfl ⟨by rw [RO.out]; rfl, HW.out⟩
      exact results_cell_row rfl _ _ (w.heap.size + 1) 49 _ (0, 0) _ rfl HK.out Try.underlying49 rfl infoF
end Go.Proofs.Ytfekngnfjemgeaa.ChkK
/- A region that draws its order of evaluation, walked by taking first what reads, and then its calls one by one: wrappers of OrdersHeld's laws. No program in it. -/
namespace Go.Proofs.Ytfekngnfjemgeaa.Held
open Go Go.RowKit
open Tab
section
variable {P : Program} {ops : Array Oper} {Q : Exit → Act → World → Prop} {md : Region.Mode} {S : World → Prop}
theorem take {i : Nat} {oi : Oper} (d0 : Option Tmp) (hd0 : oi.dst = d0) {fuel : Nat} {listed : Array Bool} {a : Act} {w : World} {v : Value} (hi : ops[i]? = some oi) (hs : Region.noSelect ops = true) (hf : Region.free md ops listed i = true) (hr : (Region.ready md ops listed).contains i = true)
    (hQ : ∀ c a w, Q (.panic c) (a.put d0 v) w → Q (.panic c) a w) (hy : YieldsIf P ops S oi v a) (hS : S w)
    (h : wpAnyH P md ops Q S fuel (listed.setIfInBounds i true) (a.put d0 v) w) : wpAnyH P md ops Q S (fuel + 1) listed a w :=
  by
  subst hd0
  exact wpAnyH_take hi hs hf hr hQ hy hS h
theorem take_skip {i : Nat} {oi : Oper} (d0 : Option Tmp) (hd0 : oi.dst = d0) {fuel : Nat} {listed : Array Bool} {a : Act} {w : World} (hi : ops[i]? = some oi) (hs : Region.noSelect ops = true) (hf : Region.free md ops listed i = true) (hr : (Region.ready md ops listed).contains i = true)
    (hQ : ∀ c a w, Q (.panic c) (a.put d0 undef) w → Q (.panic c) a w) (hw : Region.wanted oi (yielded ops a.tmps) = false) (hS : S w)
    (h : wpAnyH P md ops Q S fuel (listed.setIfInBounds i true) (a.put d0 undef) w) : wpAnyH P md ops Q S (fuel + 1) listed a w :=
  by
  subst hd0
  exact wpAnyH_take hi hs hf hr hQ (.inr ⟨hw, rfl⟩) hS h
theorem take_load {i : Nat} {oi : Oper} (d0 : Option Tmp) (hd0 : oi.dst = d0) {fuel : Nat} {listed : Array Bool} {a : Act} {w : World} (ty : TypeId) (x : Operand) (y : Addr) (cs : List Value) (d : TypeDesc) (hi : ops[i]? = some oi) (ho : oi.op = .load ty x) (hs : Region.noSelect ops = true) (hf : Region.free md ops listed i = true) (hr : (Region.ready md ops listed).contains i = true)
    (hQ : ∀ c a w, Q (.panic c) (a.put d0 (.agg cs.toArray)) w → Q (.panic c) a w) (hw : Region.wanted oi (yielded ops a.tmps) = true) (hS : S w) (hx : a.eval x = .pointer (some y)) (hc : ∀ w, S w → Lies w y cs) (hu : P.underlying ty = some d) (hd : d.isRow = true) (hz : (P.info? ty).map (·.size) = some cs.length)
    (h : wpAnyH P md ops Q S fuel (listed.setIfInBounds i true) (a.put d0 (.agg cs.toArray)) w) : wpAnyH P md ops Q S (fuel + 1) listed a w :=
  by
  subst hd0
  exact wpAnyH_take hi hs hf hr hQ (.inl ⟨hw, fun w' hw' => by
    unfold execOp
    simp only [ho, hx, Instr.loadAt, Instr.sureAddr, Sem.run_bind, Sem.run_pure, Result.andThen_ok, Row.run_loadVar_lies w' y ty cs d (hc w' hw') hu hd hz]⟩) hS h
theorem take_build {i : Nat} {oi : Oper} (d0 : Option Tmp) (hd0 : oi.dst = d0) {fuel : Nat} {listed : Array Bool} {a : Act} {w : World} (t : TypeId) (parts : Array (Nat × Operand)) (cells : Array Value) (hi : ops[i]? = some oi) (ho : oi.op = .build t parts) (hs : Region.noSelect ops = true) (hf : Region.free md ops listed i = true) (hr : (Region.ready md ops listed).contains i = true)
    (hQ : ∀ c a w, Q (.panic c) (a.put d0 (.agg cells)) w → Q (.panic c) a w) (hw : Region.wanted oi (yielded ops a.tmps) = true) (hS : S w) (hb : P.built t (parts.map fun (i, x) => (i, a.eval x)).toList = some cells)
    (h : wpAnyH P md ops Q S fuel (listed.setIfInBounds i true) (a.put d0 (.agg cells)) w) : wpAnyH P md ops Q S (fuel + 1) listed a w :=
  by
  subst hd0
  exact wpAnyH_take hi hs hf hr hQ (.inl ⟨hw, fun w' _ => by
    unfold execOp
    simp only [ho, Sem.run_bind, run_build w' t _ _ hb, Result.andThen_ok, Sem.run_pure]⟩) hS h
/-- A struct literal of one part. -/
theorem wpList_build1 {rest : List Oper} {o : Oper} {a : Act} {w : World} (hgd : o.guard = none) (t : TypeId) (k : Nat) (x : Operand) (ho : o.op = .build t #[(k, x)]) (v : Value) (hv : a.eval x = v) (cells : Array Value) (hb : P.built t [(k, v)] = some cells)
    (h : wpList P ops Q rest (a.put o.dst (.agg cells)) w) : wpList P ops Q (o :: rest) a w :=
  wpList_plain hgd fun _ hK => by
    subst hv
    unfold Oper.wp execOp
    have hb' : P.built t ((#[(k, x)] : Array (Nat × Operand)).map fun (i, x) => (i, a.eval x)).toList = some cells := by simpa using hb
    simp only [ho, Sem.run_bind, run_build w t _ _ hb', Result.andThen_ok, Sem.run_pure]
    exact hK _ _ h
end
end Go.Proofs.Ytfekngnfjemgeaa.Held
/- The contract of the generator's rows: which groups come of the numbers, and how they lie. -/
namespace Go.Proofs.Ytfekngnfjemgeaa.GenG
open Go.ChangeShapes Go.WideShapes Go.ChangeAt Go.RowKit
open Tab Gath
open RefS (num from_any num_range ret_int)
set_option linter.unusedVariables false
set_option linter.unusedSimpArgs false
/-- m phases from p on. -/
def seg (p m : Nat) : List Int := (List.range m).map fun i => ((p + i : Nat) : Int)
theorem seg_len (p m : Nat) : (seg p m).length = m := by simp [seg]
theorem seg_succ (p m : Nat) : seg p (m + 1) = seg p m ++ [((p + m : Nat) : Int)] := by unfold seg; rw [List.range_succ, List.map_append]; rfl
def lim (G g : Nat) : Nat := 9 + g - G
def want0 (L : List Int) (g : Nat) : Nat := (num L (1 + 2 * g) 3).toNat
def want1 (L : List Int) (g : Nat) (m : Nat) : Nat := if num L (2 + 2 * g) 3 = 0 ∧ m = 0 then 1 else (num L (2 + 2 * g) 3).toNat
def n0 (L : List Int) (G g p : Nat) : Nat := min (want0 L g) (lim G g - p)
def n1 (L : List Int) (G g p : Nat) : Nat := min (want1 L g (n0 L G g p)) (lim G g - (p + n0 L G g p))
def grpD (L : List Int) (G g p : Nat) : List Int × List Int := (seg p (n0 L G g p), seg (p + n0 L G g p) (n1 L G g p))
def upTo (L : List Int) (G : Nat) : Nat → List (List Int × List Int) × Nat
  | 0 => ([], 0)
  | g + 1 => ((upTo L G g).1 ++ [grpD L G g (upTo L G g).2], (upTo L G g).2 + n0 L G g (upTo L G g).2 + n1 L G g (upTo L G g).2)
def genG (L : List Int) : Nat := (1 + num L 0 3).toNat
def genGs (L : List Int) : List (List Int × List Int) := (upTo L (genG L) (genG L)).1
def genN (L : List Int) : Nat := (upTo L (genG L) (genG L)).2
theorem genG_range (L : List Int) : 1 ≤ genG L ∧ genG L ≤ 3 := by have := num_range L 0 3 (by omega); unfold genG; omega
theorem want0_le (L : List Int) (g : Nat) : want0 L g ≤ 2 := by have := num_range L (1 + 2 * g) 3 (by omega); unfold want0; omega
theorem want1_le (L : List Int) (g m : Nat) : want1 L g m ≤ 2 := by have := num_range L (2 + 2 * g) 3 (by omega); unfold want1; split <;> omega
theorem up_le (L : List Int) (G : Nat) (hG : G ≤ 3) : ∀ g, g ≤ G → (upTo L G g).2 ≤ 8
  | 0, _ => Nat.zero_le _
  | g + 1, h => by
    have := up_le L G hG g (by omega)
    show (upTo L G g).2 + n0 L G g (upTo L G g).2 + n1 L G g (upTo L G g).2 ≤ 8
    unfold n1 n0 lim
    omega
theorem up_len (L : List Int) (G : Nat) : ∀ g, (upTo L G g).1.length = g
  | 0 => rfl
  | g + 1 => by show ((upTo L G g).1 ++ [_]).length = g + 1; rw [List.length_append, up_len L G g]; rfl

/-- A row of integers, in a block of integers. -/
def RowI (w : World) (s : Sl) (l : List Int) : Prop := IntRow w s l ∧ ∀ x, s.a = some x → ∃ cs : Array Value, w.heap[x.block]? = some (.cells cs 3 (0, 0))
theorem RowI.below {w w' : World} {s : Sl} {l : List Int} (h : RowI w s l) (hb : Below w.heap.size w w') : RowI w' s l := ⟨h.1.below hb, fun x hx => by
  obtain ⟨cs, hc⟩ := h.2 x hx
  exact ⟨cs, (hb.block _ (Array.getElem?_eq_some_iff.1 hc).1).trans hc⟩⟩
theorem add_block (x : Addr) (k : Nat) : (x.add k).block = x.block := by unfold Addr.add; split <;> rfl
theorem RowI.grown {w w' : World} {s : Sl} {l : List Int} {row : Option Nat} (h : RowI w s l) (hg : w.grownBy w' row) (hne : ∀ x, s.a = some x → some x.block ≠ row) : RowI w' s l := by
  refine ⟨?_, fun x hx => ?_⟩
  · rcases h.1 with h | ⟨x, h1, h2, h3, h4⟩
    · exact .inl h
    · exact .inr ⟨x, h1, h2, h3, fun i v hv j u hu => hg.cell (h4 i v hv j u hu) (by rw [add_block, add_block]; exact hne x h1)⟩
  · obtain ⟨cs, hc⟩ := h.2 x hx
    exact ⟨cs, (hg.block _ (Array.getElem?_eq_some_iff.1 hc).1 (hne x hx)).trans hc⟩
/-- It lies in another block than one of another type. -/
theorem RowI.ne {w : World} {s : Sl} {l : List Int} {b : Nat} {cs : Array Value} {t : TypeId} (h : RowI w s l) (hb : w.heap[b]? = some (.cells cs t (0, 0))) (ht : t ≠ 3) : ∀ x, s.a = some x → x.block ≠ b := by
  intro x hx e
  obtain ⟨ds, hc⟩ := h.2 x hx
  rw [e, hb] at hc
  simp at hc
  exact ht hc.2
theorem grown_set (W : World) (b i : Nat) (v : Value) : W.grownBy (W.setCell ⟨b, i, none⟩ v) (some b) :=
  ⟨rfl, rfl, rfl, by simp, fun j _ hj => heap_setCell_other _ _ _ _ (fun e => hj (by rw [e]))⟩
theorem own_row {B : Nat} {w : World} {v : Value} {l : List Int} (h : Owns (fun n => [I n]) 1 B w 3 v l) : ∃ s : Sl, v = s.val l.length ∧ RowI w s l := by
  obtain ⟨s, hs, hr⟩ := Owns.row h (enc := fun n => [I n]) (fun _ => rfl)
  refine ⟨s, hs, hr, fun x hx => ?_⟩
  rcases h.2 with ⟨e, _⟩ | ⟨g, cap, cur, e, h1, h2, _⟩
  · rw [hs] at e
    simp [Sl.val, hx] at e
  · rw [hs] at e
    simp [Sl.val, hx] at e
    obtain ⟨rfl, _⟩ := e
    exact ⟨cur, h2⟩
theorem own_kept {α : Type} {enc : α → List Value} {n B : Nat} {w w' : World} {t : TypeId} {v : Value} {l : List α} {row : Option Nat} (h : Owns enc n B w t v l) (hg : w.grownBy w' row) (hne : ∀ m, v.ownBlock = some m → row ≠ some m) : Owns enc n B w' t v l :=
  World.ownsRow.kept h hg (by
    cases e : v.ownBlock with
    | none => exact .inl rfl
    | some m => exact .inr (fun e' => hne m e e'.symm))
theorem own_lt {α : Type} {enc : α → List Value} {n B : Nat} {w : World} {t : TypeId} {v : Value} {l : List α} (h : Owns enc n B w t v l) : ∀ m, v.ownBlock = some m → m < w.heap.size := by
  intro m hm
  rcases h.2 with ⟨rfl, _⟩ | ⟨g, cap, cur, rfl, h1, h2, _⟩
  · simp [Value.ownBlock] at hm
  · simp [Value.ownBlock] at hm
    subst hm
    exact (Array.getElem?_eq_some_iff.1 h2).1
theorem own_type {α : Type} {enc : α → List Value} {n B : Nat} {w : World} {t : TypeId} {v : Value} {l : List α} (h : Owns enc n B w t v l) : ∀ m, v.ownBlock = some m → ∃ cs : Array Value, w.heap[m]? = some (.cells cs t (0, 0)) := by
  intro m hm
  rcases h.2 with ⟨rfl, _⟩ | ⟨g, cap, cur, rfl, h1, h2, _⟩
  · simp [Value.ownBlock] at hm
  · simp [Value.ownBlock] at hm
    subst hm
    exact ⟨cur, h2⟩
theorem own_ne {α : Type} {enc : α → List Value} {n B : Nat} {w : World} {t t' : TypeId} {v : Value} {l : List α} {b : Nat} {cs : Array Value} (h : Owns enc n B w t v l) (hb : w.heap[b]? = some (.cells cs t' (0, 0))) (ht : t' ≠ t) : v.ownBlock ≠ some b := by
  intro e
  obtain ⟨ds, hd⟩ := own_type h b e
  rw [hb] at hd
  simp at hd
  exact ht hd.2
theorem grown_below {w w' : World} (hb : Below w.heap.size w w') (row : Option Nat) : w.grownBy w' row := ⟨hb.os, hb.tape, hb.output, hb.size, fun j hj _ => hb.block j hj⟩
theorem grown_trans {w w1 w2 : World} {b : Nat} {row : Option Nat} (h : w.grownBy w1 (some b)) (h2 : w1.grownBy w2 row) (hr : ∀ m, row = some m → m = b ∨ w.heap.size ≤ m) : w.grownBy w2 (some b) := by
  refine ⟨h2.os.trans h.os, h2.tape.trans h.tape, h2.output.trans h.output, Nat.le_trans h.size h2.size, fun j hj hne => ?_⟩
  rw [h2.block j (Nat.lt_of_lt_of_le hj h.size) (fun e => by rcases hr j e.symm with e' | e'; exact hne (by rw [e']); omega), h.block j hj hne]

/-- One group while its first row is filled. -/
structure G0 (Bg : Nat) (w1 : World) (a : Option Addr) (c : Nat) (p i : Nat) (W : World) : Prop where
  bel : Below Bg w1 W
  box : W.heap[Bg]? = some (.cells #[.slice a i c, .slice none 0 0] 36 (0, 0))
  own : Owns (fun n => [I n]) 1 (Bg + 1) W 3 (.slice a i c) (seg p i)
theorem G0.step {Bg : Nat} {w1 W W' : World} {a : Option Addr} {c p i : Nat} (h : G0 Bg w1 a c p i W) (hb : Below W.heap.size W W') (hB : Bg ≤ W.heap.size) : G0 Bg w1 a c p i W' :=
  ⟨h.bel.trans (hb.mono hB), (hb.block _ (Array.getElem?_eq_some_iff.1 h.box).1).trans h.box, h.own.below hb⟩
theorem G0.put {Bg : Nat} {w1 W W' : World} {a : Option Addr} {c p i : Nat} {v' : Value} (h : G0 Bg w1 a c p i W) (hB : Bg + 1 ≤ W.heap.size) (hg : W.grownBy W' (Value.slice a i c).ownBlock)
    (ho : W'.ownsRow (Bg + 1) 3 1 v' (i + 1) ((seg p i).flatMap (fun n => [I n]) ++ [I ((p + i : Nat) : Int)])) :
    (W'.heap[Bg]? = some (.cells #[.slice a i c, .slice none 0 0] 36 (0, 0))) ∧ ∃ a' c', v' = .slice a' (i + 1) c' ∧ G0 Bg w1 a' c' p (i + 1) (W'.setCell ⟨Bg, 0, none⟩ v') := by
  have hne : some Bg ≠ (Value.slice a i c).ownBlock := fun e => by have := h.own.blk _ e.symm; omega
  have hbx := (hg.block Bg (by omega) hne).trans h.box
  have hO : Owns (fun n => [I n]) 1 (Bg + 1) W' 3 v' (seg p (i + 1)) := by
    rw [seg_succ]; refine Owns.snoc ?_; rw [seg_len]; exact ho
  obtain ⟨⟨a', c'⟩, hs, hr⟩ := own_row hO
  rw [seg_len] at hs
  refine ⟨hbx, a', c', hs, ?_⟩
  have hB' : Bg ≤ W'.heap.size := Nat.le_trans (by omega) hg.size
  refine ⟨?_, ?_, ?_⟩
  · exact (h.bel.grown hg (by omega) (fun k hk => by have := h.own.blk k hk; omega)).setCell (p := ⟨Bg, 0, none⟩) (Nat.le_refl _) v'
  · rw [heap_setCell_same _ _ _ _ _ _ hbx, hs]; rfl
  · rw [hs] at hO ⊢
    exact own_kept hO (grown_set _ _ _ _) (fun m hm e => by have := hO.blk m hm; cases e; omega)
/-- One group while its second row is filled. -/
structure G1 (Bg : Nat) (w1 : World) (B1 : Nat) (a : Option Addr) (c : Nat) (p m : Nat) (a1 : Option Addr) (c1 : Nat) (i : Nat) (W : World) : Prop where
  bel : Below Bg w1 W
  box : W.heap[Bg]? = some (.cells #[.slice a m c, .slice a1 i c1] 36 (0, 0))
  own : Owns (fun n => [I n]) 1 (Bg + 1) W 3 (.slice a m c) (seg p m)
  lt : ∀ j, (Value.slice a m c).ownBlock = some j → j < B1
  own1 : Owns (fun n => [I n]) 1 B1 W 3 (.slice a1 i c1) (seg (p + m) i)
  sz : B1 ≤ W.heap.size
theorem G0.next {Bg : Nat} {w1 W : World} {a : Option Addr} {c p m : Nat} (h : G0 Bg w1 a c p m W) : G1 Bg w1 W.heap.size a c p m none 0 0 W :=
  ⟨h.bel, h.box, h.own, own_lt h.own, Owns.nil, Nat.le_refl _⟩
theorem G1.step {Bg B1 : Nat} {w1 W W' : World} {a a1 : Option Addr} {c p m c1 i : Nat} (h : G1 Bg w1 B1 a c p m a1 c1 i W) (hb : Below W.heap.size W W') (hB : Bg ≤ W.heap.size) : G1 Bg w1 B1 a c p m a1 c1 i W' :=
  ⟨h.bel.trans (hb.mono hB), (hb.block _ (Array.getElem?_eq_some_iff.1 h.box).1).trans h.box, h.own.below hb, h.lt, h.own1.below hb, Nat.le_trans h.sz hb.size⟩
theorem G1.put {Bg B1 : Nat} {w1 W W' : World} {a a1 : Option Addr} {c p m c1 i : Nat} {v' : Value} (h : G1 Bg w1 B1 a c p m a1 c1 i W) (h1 : Bg < B1) (hB : B1 ≤ W.heap.size) (hg : W.grownBy W' (Value.slice a1 i c1).ownBlock)
    (ho : W'.ownsRow B1 3 1 v' (i + 1) ((seg (p + m) i).flatMap (fun n => [I n]) ++ [I ((p + m + i : Nat) : Int)])) :
    (W'.heap[Bg]? = some (.cells #[.slice a m c, .slice a1 i c1] 36 (0, 0))) ∧ ∃ a' c', v' = .slice a' (i + 1) c' ∧ G1 Bg w1 B1 a c p m a' c' (i + 1) (W'.setCell ⟨Bg, 1, none⟩ v') := by
  have hne : some Bg ≠ (Value.slice a1 i c1).ownBlock := fun e => by have := h.own1.blk _ e.symm; omega
  have hbx := (hg.block Bg (by omega) hne).trans h.box
  have hO : Owns (fun n => [I n]) 1 B1 W' 3 v' (seg (p + m) (i + 1)) := by
    rw [seg_succ]; refine Owns.snoc ?_; rw [seg_len]; exact ho
  have hO0 : Owns (fun n => [I n]) 1 (Bg + 1) W' 3 (.slice a m c) (seg p m) := own_kept h.own hg (fun j hj e => by have := h.lt j hj; have := h.own1.blk j e; omega)
  obtain ⟨⟨a', c'⟩, hs, hr⟩ := own_row hO
  rw [seg_len] at hs
  refine ⟨hbx, a', c', hs, ?_⟩
  have hB' : Bg ≤ W'.heap.size := Nat.le_trans (by omega) hg.size
  refine ⟨?_, ?_, ?_, h.lt, ?_, by simp; exact Nat.le_trans h.sz hg.size⟩
  · exact (h.bel.grown hg (by omega) (fun k hk => by have := h.own1.blk k hk; omega)).setCell (p := ⟨Bg, 1, none⟩) (Nat.le_refl _) v'
  · rw [heap_setCell_same _ _ _ _ _ _ hbx, hs]; rfl
  · exact own_kept hO0 (grown_set _ _ _ _) (fun m hm e => by have := hO0.blk m hm; cases e; omega)
  · rw [hs] at hO ⊢
    exact own_kept hO (grown_set _ _ _ _) (fun m hm e => by have := hO.blk m hm; cases e; omega)
/-- The groups so far. -/
structure GS (w : World) (tb : Nat) (cs : List Value) (ga : Option Addr) (gc : Nat) (g : Nat) (gs : List Gr) (W : World) : Prop where
  gb : w.grownBy W (some tb)
  tbk : W.heap[tb]? = some (.cells (cs.set 104 (.slice ga g gc)).toArray 32 (0, 0))
  own : Owns Gr.cells 2 w.heap.size W 36 (.slice ga g gc) gs
  len : gs.length = g
  rows : ∀ x ∈ gs, RowI W x.s0 x.r0 ∧ RowI W x.s1 x.r1
theorem GS.step {w W W' : World} {tb : Nat} {cs : List Value} {ga : Option Addr} {gc g : Nat} {gs : List Gr} (h : GS w tb cs ga gc g gs W) (hb : Below W.heap.size W W') : GS w tb cs ga gc g gs W' :=
  ⟨grown_trans h.gb (grown_below hb none) (fun m e => by cases e), (hb.block _ (Array.getElem?_eq_some_iff.1 h.tbk).1).trans h.tbk, h.own.below hb, h.len, fun x hx => ⟨(h.rows x hx).1.below hb, (h.rows x hx).2.below hb⟩⟩
theorem GS.put {w W W' : World} {tb : Nat} {cs : List Value} {ga : Option Addr} {gc g : Nat} {gs : List Gr} {v' : Value} (x : Gr) (h : GS w tb cs ga gc g gs W) (hx : RowI W x.s0 x.r0 ∧ RowI W x.s1 x.r1) (hg : W.grownBy W' (Value.slice ga g gc).ownBlock) (hc : cs.length = 131)
    (ho : W'.ownsRow w.heap.size 36 2 v' (g + 1) (gs.flatMap Gr.cells ++ x.cells)) :
    (W'.heap[tb]? = some (.cells (cs.set 104 (.slice ga g gc)).toArray 32 (0, 0))) ∧ ∃ a' c', v' = .slice a' (g + 1) c' ∧ GS w tb cs a' c' (g + 1) (gs ++ [x]) (W'.setCell ⟨tb, 104, none⟩ v') := by
  have hne : some tb ≠ (Value.slice ga g gc).ownBlock := fun e => own_ne h.own h.tbk (by decide) e.symm
  have hbx := (hg.block tb (Array.getElem?_eq_some_iff.1 h.tbk).1 hne).trans h.tbk
  have hO : Owns Gr.cells 2 w.heap.size W' 36 v' (gs ++ [x]) := Owns.snoc (by rw [h.len]; exact ho)
  obtain ⟨⟨a', c'⟩, hs, hr⟩ := Owns.row hO (fun _ => rfl)
  have hs2 : v' = .slice a' (g + 1) c' := by rw [hs, List.length_append, h.len]; rfl
  have hK : ∀ s l, RowI W s l → RowI (W'.setCell ⟨tb, 104, none⟩ v') s l := fun s l hr => by
    have h1 : RowI W' s l := hr.grown hg (fun y hy e => by
      obtain ⟨ds, hd⟩ := own_type h.own _ e.symm
      exact hr.ne hd (by decide) y hy rfl)
    exact h1.grown (grown_set _ _ _ _) (fun y hy e => h1.ne hbx (by decide) y hy (by cases e; rfl))
  refine ⟨hbx, a', c', hs2, ?_, ?_, ?_, by rw [List.length_append, h.len]; rfl, ?_⟩
  · exact grown_trans (grown_trans h.gb hg (fun m e => .inr (h.own.blk m e))) (grown_set _ _ _ _) (fun m e => .inl (by cases e; rfl))
  · rw [heap_setCell_same _ _ _ _ _ _ hbx, hs2]
    simp
  · rw [← hs2]
    exact own_kept hO (grown_set _ _ _ _) (fun m hm e => by cases e; exact own_ne hO hbx (by decide) hm)
  · intro y hy
    rcases List.mem_append.1 hy with hy | hy
    · exact ⟨hK _ _ (h.rows y hy).1, hK _ _ (h.rows y hy).2⟩
    · obtain rfl : y = x := by simpa using hy
      exact ⟨hK _ _ hx.1, hK _ _ hx.2⟩
theorem from_at (a : Option Addr) (cap : Nat) (L : List Int) (i j n : Int) (hij : i = j) (w : World) (h : IntRow w ⟨a, cap⟩ L) (h0 : 0 ≤ i) (hn : 0 < n) (hn' : n ≤ 1000) :
    Calls Try.prog 19 #[.slice a L.length cap, .int .i64 i, .int .i64 n] w fun e w' => e = .returned (.int .i64 (num L j n)) ∧ w = w' := by
  subst hij; exact from_any a cap L i n w h h0 hn hn'
theorem infoGz : (Try.prog.info? 36).map (fun i => (i.zero, i.size)) = some (some (.agg #[.slice none 0 0, .slice none 0 0]), 2) := by kernel_rfl
theorem infoG2 : (Try.prog.info? 36).map (·.size) = some 2 := by kernel_rfl
theorem infoG3 : (Try.prog.info? 36).map (fun i => (i.zero, i.size, i.bytes)) = some (some (.agg #[.slice none 0 0, .slice none 0 0]), 2, 48) := by kernel_rfl
end Go.Proofs.Ytfekngnfjemgeaa.GenG
