/- 5 texts in one file, in build order. -/
import Derived.Test.YtjolhoilcibdfaaGreatRows
import Derived.Test.YtjolhoilcibdfaaGreatPart08
import Derived.Test.YtjolhoilcibdfaaGreatPart02
import Derived.Test.YtjolhoilcibdfaaGreatPart07
import Derived.Test.YtjolhoilcibdfaaGreatPart04
import Derived.Test.YtjolhoilcibdfaaGreatPart06
set_option linter.unusedVariables false
set_option linter.unusedSimpArgs false
set_option linter.unusedSectionVars false
/- The contracts of package check's ranges and Check: at any table the Fault of the first rule that applies. -/
namespace Go.Proofs.YtjolhoilcibdfaaGreat.ChkK
open Go.ChangeShapes Go.WideShapes Go.ChangeAt Go.RowKit
open Tab PlaceM PlanM OnS ChkM ChkA ChkH ChkQ
open ChkB (laid2)
open Same (below_setRow Eqs eqs_of)
open Flat
open May (ret_bool infoT tabMay)
set_option linter.unusedVariables false
set_option linter.unusedSimpArgs false
theorem lerr (a b : Int) : LeafEq Tryz.prog 35 (I a, I b) := leaf_int Tryz.underlying35 a b
theorem flatFt : flat Tryz.prog 3 37 = some [35, 3] := by kernel_rfl
theorem guardF : Tryz.prog.eqGuardType Tryz.prog.depth 37 = false := by kernel_rfl
theorem fault_eqs (a b c d : Int) : Eqs 37 [I a, I b] [I c, I d] (decide (a = c ∧ b = d)) := by
  refine eqs_of flatFt (by decide) (by kernel_rfl) [(I a, I c), (I b, I d)] ⟨lerr _ _, Same.lint _ _, trivial⟩ rfl rfl ?_
  simp
set_option maxRecDepth 100000 in
set_option maxHeartbeats 4000000 in
theorem ranges_any (T : Tab) (h : Hd) (w : World) (ht : IsTab w h T) :
    Calls Tryz.prog 73 #[.agg (T.cells h).toArray] w fun e w' => e = .returned (.agg (fltC 4 (mayF T))) ∧ Below w.heap.size w w' := by
  have hsz := (cells_ok ht).size
  have IA : Hid ((Tryz.prog.info? 32).map (·.size) = some (T.cells h).length) := Lib.hid (by rw [List.size_toArray] at hsz; rw [hsz]; exact infoT)
  have MY : Hid (∀ W, Below w.heap.size w W → Calls Tryz.prog 108 #[.agg (T.cells h).toArray] W fun e w' => e = .returned (.bool (tabMay T)) ∧ Below W.heap.size W w') := Lib.hid (fun W hb => May.may_any T h W (ht.below hb))
  have LT0 := Lib.hid (Row.lies_new w (T.cells h).toArray 32)
  have hs1 : (w.alloc (.cells (T.cells h).toArray 32)).heap.size = w.heap.size + 1 := by simp
  have MF : Hid (mayF T = if tabMay T then none else some 0) := Lib.hid rfl
  generalize mayF T = o at MF ⊢
  generalize tabMay T = b at MF MY
  clear ht
  generalize T.cells h = c at *
  go_enter Tryz.func73, Tryz.ntmps73
  go_upto_region 1 with fail
  obtain ⟨W1, hW1, E1, E0, EB, bR⟩ := laid2 w (.cells c.toArray 32) (.cells #[.int .i64 0, .int .i64 0] 37)
  rw [hW1]
  have LT := Lib.hid (LT0.out.below (by rw [hs1]; exact EB))
  have B0 := Lib.hid E0
  clear hW1 EB hs1 hsz LT0 E0 E1
  go_wp2_with (refine Row.wpList_load_g 32 _ rfl (by first | rfl | go_simp) ⟨w.heap.size, 0, none⟩ rfl c _ LT.out Tryz.underlying32 rfl IA.out ?_)
  (try go_wp2_with fail)
  refine (MY.out _ B0.out).mono ?_
  rintro e u1 ⟨rfl, hb⟩
  have C0 : Hid (Below w.heap.size w u1) := Lib.hid (B0.out.trans (hb.mono B0.out.size))
  have C2 : Hid (u1.heap[w.heap.size + 1]? = some (.cells #[.int .i64 0, .int .i64 0] 37 (0, 0))) := Lib.hid ((hb.block _ (Array.getElem?_eq_some_iff.1 bR).1).trans bR)
  clear hb bR B0
  cases b with
  | true =>
    have RO : Hid (o = none) := Lib.hid (by rw [MF.out]; rfl)
    have HW := Lib.hid (below_setRow C0.out (g := w.heap.size + 1) (by omega) #[.int .i64 0, .int .i64 0])
    have HK := Lib.hid (setRow_heap u1 (w.heap.size + 1) _ #[.int .i64 0, .int .i64 0] _ _ C2.out)
    go_wp2_with (first | (refine wpList_store_row rfl 37 _ _ rfl (w.heap.size + 1) #[.int .i64 0, .int .i64 0] rfl rfl 37 _ C2.out infoF rfl (by simp [Value.oneCell']) ?_))
    generalize u1.setRow (w.heap.size + 1) #[.int .i64 0, .int .i64 0] = uz at HW HK ⊢
    (try go_wp2_with fail)
    (try simp only [Exit.inBlock, Exit.then])
    refine bodyPost_ret (v := .agg #[.int .i64 0, .int .i64 0]) ?_ rfl ⟨by rw [RO.out]; rfl, HW.out⟩
    exact results_cell_row rfl _ _ (w.heap.size + 1) 37 _ (0, 0) _ rfl HK.out Tryz.underlying37 rfl infoF
  | false =>
    have RO : Hid (o = some 0) := Lib.hid (by rw [MF.out]; rfl)
    have HW := Lib.hid (below_setRow C0.out (g := w.heap.size + 1) (by omega) #[.int .i64 4, .int .i64 0])
    have HK := Lib.hid (setRow_heap u1 (w.heap.size + 1) _ #[.int .i64 4, .int .i64 0] _ _ C2.out)
    go_wp2_with (first | (refine wpList_store_row rfl 37 _ _ rfl (w.heap.size + 1) #[.int .i64 4, .int .i64 0] rfl rfl 37 _ C2.out infoF rfl (by simp [Value.oneCell']) ?_))
    generalize u1.setRow (w.heap.size + 1) #[.int .i64 4, .int .i64 0] = uz at HW HK ⊢
    (try go_wp2_with fail)
    (try simp only [Exit.inBlock, Exit.then])
    refine bodyPost_ret (v := .agg #[.int .i64 4, .int .i64 0]) ?_ rfl ⟨by rw [RO.out]; rfl, HW.out⟩
    exact results_cell_row rfl _ _ (w.heap.size + 1) 37 _ (0, 0) _ rfl HK.out Tryz.underlying37 rfl infoF
theorem det_ok {T : Tab} {d : Det} (h : tabMay T = true) (hd : d ∈ T.dets) : Fl.isn d.on = false ∧ Fl.isn d.off = false ∧ 0 ≤ d.phase ∧ d.phase < 8 := by
  have h1 : May.Det.may d = true := by
    unfold tabMay at h
    simp only [Bool.and_eq_true] at h
    have h2 : May.listMay 16 May.Det.may T.dets = true := by simp [h]
    unfold May.listMay at h2
    rw [Bool.and_eq_true, List.all_eq_true] at h2
    exact h2.2 d hd
  unfold May.Det.may MayF.level May.allIn May.inB at h1
  simp only [Bool.and_eq_true, List.all_cons, List.all_nil, Bool.and_true, decide_eq_true_eq, Bool.not_eq_true'] at h1
  obtain ⟨⟨h2, h3⟩, ⟨⟨h4, _⟩, _⟩, ⟨⟨h5, _⟩, _⟩, _⟩ := h1
  exact ⟨h4, h5, h2, by omega⟩
theorem none_may {T : Tab} (h : mayF T = none) : tabMay T = true := by
  unfold mayF at h
  cases hm : tabMay T with
  | true => rfl
  | false => rw [hm] at h; simp at h
theorem idx8_0 (v0 v1 v2 v3 v4 v5 v6 v7 : Value) (w : World) : Sem.run Tryz.prog (Instr.index 80 (.agg #[v0, v1, v2, v3, v4, v5, v6, v7]) (.int .i64 0)) w = .ok v0 w := by kernel_rfl
theorem idx8_1 (v0 v1 v2 v3 v4 v5 v6 v7 : Value) (w : World) : Sem.run Tryz.prog (Instr.index 80 (.agg #[v0, v1, v2, v3, v4, v5, v6, v7]) (.int .i64 1)) w = .ok v1 w := by kernel_rfl
theorem idx8_2 (v0 v1 v2 v3 v4 v5 v6 v7 : Value) (w : World) : Sem.run Tryz.prog (Instr.index 80 (.agg #[v0, v1, v2, v3, v4, v5, v6, v7]) (.int .i64 2)) w = .ok v2 w := by kernel_rfl
theorem idx8_3 (v0 v1 v2 v3 v4 v5 v6 v7 : Value) (w : World) : Sem.run Tryz.prog (Instr.index 80 (.agg #[v0, v1, v2, v3, v4, v5, v6, v7]) (.int .i64 3)) w = .ok v3 w := by kernel_rfl
theorem idx8_4 (v0 v1 v2 v3 v4 v5 v6 v7 : Value) (w : World) : Sem.run Tryz.prog (Instr.index 80 (.agg #[v0, v1, v2, v3, v4, v5, v6, v7]) (.int .i64 4)) w = .ok v4 w := by kernel_rfl
theorem idx8_5 (v0 v1 v2 v3 v4 v5 v6 v7 : Value) (w : World) : Sem.run Tryz.prog (Instr.index 80 (.agg #[v0, v1, v2, v3, v4, v5, v6, v7]) (.int .i64 5)) w = .ok v5 w := by kernel_rfl
theorem idx8_6 (v0 v1 v2 v3 v4 v5 v6 v7 : Value) (w : World) : Sem.run Tryz.prog (Instr.index 80 (.agg #[v0, v1, v2, v3, v4, v5, v6, v7]) (.int .i64 6)) w = .ok v6 w := by kernel_rfl
theorem idx8_7 (v0 v1 v2 v3 v4 v5 v6 v7 : Value) (w : World) : Sem.run Tryz.prog (Instr.index 80 (.agg #[v0, v1, v2, v3, v4, v5, v6, v7]) (.int .i64 7)) w = .ok v7 w := by kernel_rfl
set_option maxRecDepth 100000 in
set_option maxHeartbeats 8000000 in
theorem check_any (T : Tab) (h : Hd) (w : World) (ht : IsTab w h T) :
    Calls Tryz.prog 14 #[.agg (T.cells h).toArray] w fun e w' => e = .returned (.agg (fcells (chkC T))) ∧ Below w.heap.size w w' := by
  have hsz := (cells_ok ht).size
  have IA : Hid ((Tryz.prog.info? 32).map (·.size) = some (T.cells h).length) := Lib.hid (by rw [List.size_toArray] at hsz; rw [hsz]; exact infoT)
  have LT0 := Lib.hid (Row.lies_new w (T.cells h).toArray 32)
  have hs1 : (w.alloc (.cells (T.cells h).toArray 32)).heap.size = w.heap.size + 1 := by simp
  have RU0 : Hid (∀ n W, Below w.heap.size w W → Lie n W → Calls Tryz.prog 73 #[.agg (T.cells h).toArray] W fun e w' => e = .returned (.agg (fltC 4 (mayF T))) ∧ Below W.heap.size W w') := Lib.hid (fun n W hb hl => ranges_any T h W (ht.below hb))
  have RU1 : Hid (∀ n W, Below w.heap.size w W → Lie n W → Calls Tryz.prog 109 #[.agg (T.cells h).toArray, .pointer (some ⟨n + 1 + 1, 0, none⟩), .pointer (some ⟨n + 1, 0, none⟩)] W fun e w' => e = .returned (.agg (fltC 7 ((ons T).find? fun p => phBad (phAt T p)))) ∧ Below W.heap.size W w') := Lib.hid (fun n W hb hl => ChkP.phases_P T h 7 (n + 1 + 1) (n + 1) (fun p => phBad (phAt T p)) W (ht.below hb) hl.c2 hl.c1 (fun k W' hk hb' => ChkB.badPhase_any T h k hk W' ((ht.below hb).below hb')))
  have RU2 : Hid (∀ n W, Below w.heap.size w W → Lie n W → Calls Tryz.prog 76 #[.agg (T.cells h).toArray] W fun e w' => e = .returned (.agg (fltC 8 (ringsC T))) ∧ Below W.heap.size W w') := Lib.hid (fun n W hb hl => by have := rings_any T h W (ht.below hb); rwa [flt_agg] at this)
  have RU3 : Hid (∀ n W, Below w.heap.size w W → Lie n W → Calls Tryz.prog 109 #[.agg (T.cells h).toArray, .pointer (some ⟨n + 3 + 1, 0, none⟩), .pointer (some ⟨n + 3, 0, none⟩)] W fun e w' => e = .returned (.agg (fltC 9 ((ons T).find? (confBad T)))) ∧ Below W.heap.size W w') := Lib.hid (fun n W hb hl => ChkP.phases_C T h 9 (n + 3 + 1) (n + 3) (confBad T) W (ht.below hb) hl.c4 hl.c3 (fun k W' hk hb' => ChkJ.badConflict_any T h k hk W' ((ht.below hb).below hb')))
  have RU4 : Hid (mayF T = none → ∀ n W, Below w.heap.size w W → Lie n W → Calls Tryz.prog 113 #[.agg (T.cells h).toArray, .pointer (some ⟨n + 5 + 1, 0, none⟩), .pointer (some ⟨n + 5 + 1 + 1, 0, none⟩), .pointer (some ⟨n + 5, 0, none⟩)] W fun e w' => e = .returned (.agg (fltC 10 (idx (detBad T) T.dets))) ∧ Below W.heap.size W w') := Lib.hid (fun hm0 => have hm := none_may hm0; fun n W hb hl => ChkE.elem_D T h 10 (n + 5 + 1) (n + 5 + 1 + 1) (n + 5) (detBad T) W (ht.below hb) hl.c6 hl.c7 hl.c5 (fun v W' hv hb' => ChkB.badDetector_any T h v W' ((ht.below hb).below hb') (det_ok hm hv).1 (det_ok hm hv).2.1 (det_ok hm hv).2.2))
  have RU5 : Hid (∀ n W, Below w.heap.size w W → Lie n W → Calls Tryz.prog 114 #[.agg (T.cells h).toArray, .pointer (some ⟨n + 8 + 1, 0, none⟩), .pointer (some ⟨n + 8 + 1 + 1, 0, none⟩), .pointer (some ⟨n + 8, 0, none⟩)] W fun e w' => e = .returned (.agg (fltC 11 (idx (railBad T) T.rails))) ∧ Below W.heap.size W w') := Lib.hid (fun n W hb hl => ChkE.elem_R T h 11 (n + 8 + 1) (n + 8 + 1 + 1) (n + 8) (railBad T) W (ht.below hb) hl.c9 hl.c10 hl.c8 (fun v W' hv hb' => ChkR.badRail_any T h v W' ((ht.below hb).below hb')))
  have RU6 : Hid (∀ n W, Below w.heap.size w W → Lie n W → Calls Tryz.prog 119 #[.agg (T.cells h).toArray, .pointer (some ⟨n + 11 + 1, 0, none⟩), .pointer (some ⟨n + 11 + 1 + 1, 0, none⟩), .pointer (some ⟨n + 11, 0, none⟩)] W fun e w' => e = .returned (.agg (fltC 12 (idx (busBad T) T.buses))) ∧ Below W.heap.size W w') := Lib.hid (fun n W hb hl => ChkE.elem_B T h 12 (n + 11 + 1) (n + 11 + 1 + 1) (n + 11) (busBad T) W (ht.below hb) hl.c12 hl.c13 hl.c11 (fun v W' hv hb' => ChkB.badBus_any T h v W' ((ht.below hb).below hb')))
  have RU7 : Hid (∀ n W, Below w.heap.size w W → Lie n W → Calls Tryz.prog 109 #[.agg (T.cells h).toArray, .pointer (some ⟨n + 14 + 1, 0, none⟩), .pointer (some ⟨n + 14, 0, none⟩)] W fun e w' => e = .returned (.agg (fltC 13 ((ons T).find? (flashBad T)))) ∧ Below W.heap.size W w') := Lib.hid (fun n W hb hl => ChkP.phases_F T h 13 (n + 14 + 1) (n + 14) (flashBad T) W (ht.below hb) hl.c15 hl.c14 (fun k W' hk hb' => ChkY.badFlash_any T h k hk W' ((ht.below hb).below hb')))
  obtain ⟨o0, ho0⟩ : ∃ z, (mayF T) = z := ⟨_, rfl⟩
  obtain ⟨o1, ho1⟩ : ∃ z, ((ons T).find? fun p => phBad (phAt T p)) = z := ⟨_, rfl⟩
  obtain ⟨o2, ho2⟩ : ∃ z, (ringsC T) = z := ⟨_, rfl⟩
  obtain ⟨o3, ho3⟩ : ∃ z, ((ons T).find? (confBad T)) = z := ⟨_, rfl⟩
  obtain ⟨o4, ho4⟩ : ∃ z, (idx (detBad T) T.dets) = z := ⟨_, rfl⟩
  obtain ⟨o5, ho5⟩ : ∃ z, (idx (railBad T) T.rails) = z := ⟨_, rfl⟩
  obtain ⟨o6, ho6⟩ : ∃ z, (idx (busBad T) T.buses) = z := ⟨_, rfl⟩
  obtain ⟨o7, ho7⟩ : ∃ z, ((ons T).find? (flashBad T)) = z := ⟨_, rfl⟩
  obtain ⟨l, hl⟩ : ∃ z, z = rulesC T := ⟨_, rfl⟩
  have CK : Hid (chkC T = firstF l) := Lib.hid (by rw [hl]; rfl)
  unfold rulesC at hl
  rw [ho0, ho1, ho2, ho3, ho4, ho5, ho6, ho7] at hl
  rw [ho0] at RU0
  rw [ho1] at RU1
  rw [ho2] at RU2
  rw [ho3] at RU3
  rw [ho4] at RU4
  rw [ho5] at RU5
  rw [ho6] at RU6
  rw [ho7] at RU7
  rw [ho0] at RU4
  have LL0 : Hid (l[0]? = some (4, o0)) := Lib.hid (by rw [hl]; rfl)
  have LL1 : Hid (l[1]? = some (7, o1)) := Lib.hid (by rw [hl]; rfl)
  have LL2 : Hid (l[2]? = some (8, o2)) := Lib.hid (by rw [hl]; rfl)
  have LL3 : Hid (l[3]? = some (9, o3)) := Lib.hid (by rw [hl]; rfl)
  have LL4 : Hid (l[4]? = some (10, o4)) := Lib.hid (by rw [hl]; rfl)
  have LL5 : Hid (l[5]? = some (11, o5)) := Lib.hid (by rw [hl]; rfl)
  have LL6 : Hid (l[6]? = some (12, o6)) := Lib.hid (by rw [hl]; rfl)
  have LL7 : Hid (l[7]? = some (13, o7)) := Lib.hid (by rw [hl]; rfl)
  have LE : Hid (∀ (j : Nat) x, l[j]? = some x → j < 8) := Lib.hid (fun j x hx => by have := (List.getElem?_eq_some_iff.1 hx).1; rw [hl] at this; simpa using this)
  generalize chkC T = ck at CK ⊢
  clear hl ht ho0 ho1 ho2 ho3 ho4 ho5 ho6 ho7
  generalize T.cells h = c at *
  go_enter Tryz.func14, Tryz.ntmps14
  go_upto_region 1 with fail
  obtain ⟨W1, hW1, E1, E0, EB, bR⟩ := laid2 w (.cells c.toArray 32) (.cells #[.int .i64 0, .int .i64 0] 37)
  rw [hW1]
  have LT1 := Lib.hid (LT0.out.below (by rw [hs1]; exact EB))
  have B0 := Lib.hid E0
  clear hW1 EB hs1 hsz LT0 E0 E1
  go_wp2_with fail
  refine (rules_any _).mono ?_
  rintro e W2 ⟨rfl, hlie, hb⟩
  have C0 : Hid (Below w.heap.size w W2) := Lib.hid (B0.out.trans (hb.mono B0.out.size))
  have C2 : Hid (W2.heap[w.heap.size + 1]? = some (.cells #[.int .i64 0, .int .i64 0] 37 (0, 0))) := Lib.hid ((hb.block _ (Array.getElem?_eq_some_iff.1 bR).1).trans bR)
  have LT := Lib.hid (LT1.out.below hb)
  have LI := Lib.hid hlie
  clear hb bR B0 hlie LT1
  generalize W1.heap.size = n at *
  unfold fns
  go_wp2_with fail
  go_loopw [7] (fun a wr => ∃ q : Nat, q ≤ 8 ∧ a = .int .i64 q ∧ (∀ (j : Nat) x, j < q → l[j]? = some x → x.2 = none) ∧ Below W2.heap.size W2 wr) (fun a _ => 8 - (intOf a).toNat)
  case atStart => exact ⟨0, by omega, rfl, (fun j x h => by omega), Below.refl _ _⟩
  case round =>
    obtain ⟨q, hq, rfl, hall, hB⟩ := hrel
    have HA := Lib.hid hall
    have HB := Lib.hid hB
    have BW : Hid (Below w.heap.size w wr) := Lib.hid (C0.out.trans (hB.mono C0.out.size))
    have LTW := Lib.hid (LT.out.below hB)
    have LIW := Lib.hid (LI.out.below hB)
    clear hall hB
    have hq9 : q = 0 ∨ q = 1 ∨ q = 2 ∨ q = 3 ∨ q = 4 ∨ q = 5 ∨ q = 6 ∨ q = 7 ∨ q = 8 := by omega
    clear hq
    rcases hq9 with rfl | rfl | rfl | rfl | rfl | rfl | rfl | rfl | rfl
    · rw [show ((0 : Nat) : Int) = (0 : Int) from rfl]
      have ix := idx8_0 (.func (.func 73) #[] #[]) (.func (.func 109) #[] #[.pointer (some ⟨n + 1 + 1, 0, none⟩), .pointer (some ⟨n + 1, 0, none⟩)]) (.func (.func 76) #[] #[]) (.func (.func 109) #[] #[.pointer (some ⟨n + 3 + 1, 0, none⟩), .pointer (some ⟨n + 3, 0, none⟩)]) (.func (.func 113) #[] #[.pointer (some ⟨n + 5 + 1, 0, none⟩), .pointer (some ⟨n + 5 + 1 + 1, 0, none⟩), .pointer (some ⟨n + 5, 0, none⟩)]) (.func (.func 114) #[] #[.pointer (some ⟨n + 8 + 1, 0, none⟩), .pointer (some ⟨n + 8 + 1 + 1, 0, none⟩), .pointer (some ⟨n + 8, 0, none⟩)]) (.func (.func 119) #[] #[.pointer (some ⟨n + 11 + 1, 0, none⟩), .pointer (some ⟨n + 11 + 1 + 1, 0, none⟩), .pointer (some ⟨n + 11, 0, none⟩)]) (.func (.func 109) #[] #[.pointer (some ⟨n + 14 + 1, 0, none⟩), .pointer (some ⟨n + 14, 0, none⟩)])
      have NX : Hid (o0 = none → ∀ (i : Nat) x, i < 0 + 1 → l[i]? = some x → x.2 = none) := Lib.hid (fun e i x hi hx => by
        by_cases hij : i = 0
        · subst hij; obtain rfl := Option.some.inj (hx.symm.trans LL0.out); exact e
        · exact HA.out i x (by omega) hx)
      have HIT : Hid (∀ p, o0 = some p → ck = (4, p)) := Lib.hid (fun p e => by rw [CK.out]; exact first_hit (q := 0) (by rw [LL0.out, e]) HA.out)
      have RC := Lib.hid (RU0.out n _ BW.out LIW.out)
      clear RU0 RU1 RU2 RU3 RU4 RU5 RU6 RU7 LL0 LL1 LL2 LL3 LL4 LL5 LL6 LL7 LE HA LIW
      go_wp2_with (refine Row.wpList_load_g 32 _ rfl (by first | rfl | go_simp) ⟨w.heap.size, 0, none⟩ rfl c _ LTW.out Tryz.underlying32 rfl IA.out ?_)
      (try go_wp2_with fail)
      clear ix
      refine RC.out.mono ?_
      rintro e u1 ⟨rfl, hb⟩
      have D0 : Hid (Below w.heap.size w u1) := Lib.hid (BW.out.trans (hb.mono BW.out.size))
      have D3 := Lib.hid (HB.out.trans (hb.mono HB.out.size))
      clear hb BW HB LTW RC
      cases o0 with
      | none =>
        have NN := Lib.hid (NX.out rfl)
        clear NX HIT
        go_upto_region 5 with (refine Row.wpList_store_new rfl 37 _ _ rfl u1 _ #[I 0, I 0] rfl rfl rfl infoF rfl (by simp [Value.oneCell']) ?_)
        have hg := Row.lies_new u1 #[I 0, I 0] 37
        have HL : Hid (Lies (u1.alloc (.cells #[I 0, I 0] 37)) ⟨u1.heap.size, 0, none⟩ #[I 0, I 0].toList) := Lib.hid hg
        have F0 : Hid (Below w.heap.size w (u1.alloc (.cells #[I 0, I 0] 37))) := Lib.hid (D0.out.alloc D0.out.size _)
        have F3 : Hid (Below W2.heap.size W2 (u1.alloc (.cells #[I 0, I 0] 37))) := Lib.hid (D3.out.alloc D3.out.size _)
        clear hg D0 D3
        generalize u1.alloc (.cells #[I 0, I 0] 37) = u2 at HL F0 F3 ⊢
        generalize u1.heap.size = b2 at HL ⊢
        have EQ := Lib.hid (show Eqs 37 [I 0, I 0] [I 0, I 0] true from fault_eqs 0 0 0 0)
        go_wp2_with (first | (refine Row.wpList_load_g 37 _ rfl (by first | rfl | go_simp) ⟨b2, 0, none⟩ rfl [I 0, I 0] _ HL.out Tryz.underlying37 rfl infoF ?_) | (refine Row.wpList_neq 37 _ _ _ rfl (by rfl) #[I 0, I 0] #[I 0, I 0] rfl rfl guardF true EQ.out ?_))
        (try go_wp2)
        go_roundw
        case rel => exact ⟨0 + 1, by omega, by go_num, NN.out, F3.out⟩
        case measure => simp [intOf]
      | some p =>
        have CP := Lib.hid (HIT.out p rfl)
        clear NX HIT
        go_upto_region 5 with (refine Row.wpList_store_new rfl 37 _ _ rfl u1 _ #[I 4, I p] rfl rfl rfl infoF rfl (by simp [Value.oneCell']) ?_)
        have hg := Row.lies_new u1 #[I 4, I p] 37
        have HL : Hid (Lies (u1.alloc (.cells #[I 4, I p] 37)) ⟨u1.heap.size, 0, none⟩ #[I 4, I p].toList) := Lib.hid hg
        have F0 : Hid (Below w.heap.size w (u1.alloc (.cells #[I 4, I p] 37))) := Lib.hid (D0.out.alloc D0.out.size _)
        have F3 : Hid (Below W2.heap.size W2 (u1.alloc (.cells #[I 4, I p] 37))) := Lib.hid (D3.out.alloc D3.out.size _)
        clear hg D0 D3
        generalize u1.alloc (.cells #[I 4, I p] 37) = u2 at HL F0 F3 ⊢
        generalize u1.heap.size = b2 at HL ⊢
        have EQ := Lib.hid (show Eqs 37 [I 4, I p] [I 0, I 0] false from by have := fault_eqs 4 p 0 0; rwa [decide_eq_false (by omega)] at this)
        have G2 : Hid (u2.heap[w.heap.size + 1]? = some (.cells #[.int .i64 0, .int .i64 0] 37 (0, 0))) := Lib.hid ((F3.out.block _ (Array.getElem?_eq_some_iff.1 C2.out).1).trans C2.out)
        have HW := Lib.hid (below_setRow F0.out (g := w.heap.size + 1) (by omega) #[I 4, I p])
        have HK := Lib.hid (setRow_heap u2 (w.heap.size + 1) _ #[I 4, I p] _ _ G2.out)
        go_wp2_with (first | (refine Row.wpList_load_g 37 _ rfl (by first | rfl | go_simp) ⟨b2, 0, none⟩ rfl [I 4, I p] _ HL.out Tryz.underlying37 rfl infoF ?_) | (refine Row.wpList_neq 37 _ _ _ rfl (by rfl) #[I 4, I p] #[I 0, I 0] rfl rfl guardF false EQ.out ?_) | (refine wpList_store_row rfl 37 _ _ rfl (w.heap.size + 1) #[I 4, I p] rfl rfl 37 _ G2.out infoF rfl (by simp [Value.oneCell']) ?_))
        generalize u2.setRow (w.heap.size + 1) #[I 4, I p] = uz at HW HK ⊢
        (try go_wp2_with fail)
        (try simp only [Exit.inBlock, Exit.then])
        refine bodyPost_ret (v := .agg #[I 4, I p]) ?_ rfl ⟨by rw [CP.out]; rfl, HW.out⟩
        exact results_cell_row rfl _ _ (w.heap.size + 1) 37 _ (0, 0) _ rfl HK.out Tryz.underlying37 rfl infoF
    · rw [show ((1 : Nat) : Int) = (1 : Int) from rfl]
      have ix := idx8_1 (.func (.func 73) #[] #[]) (.func (.func 109) #[] #[.pointer (some ⟨n + 1 + 1, 0, none⟩), .pointer (some ⟨n + 1, 0, none⟩)]) (.func (.func 76) #[] #[]) (.func (.func 109) #[] #[.pointer (some ⟨n + 3 + 1, 0, none⟩), .pointer (some ⟨n + 3, 0, none⟩)]) (.func (.func 113) #[] #[.pointer (some ⟨n + 5 + 1, 0, none⟩), .pointer (some ⟨n + 5 + 1 + 1, 0, none⟩), .pointer (some ⟨n + 5, 0, none⟩)]) (.func (.func 114) #[] #[.pointer (some ⟨n + 8 + 1, 0, none⟩), .pointer (some ⟨n + 8 + 1 + 1, 0, none⟩), .pointer (some ⟨n + 8, 0, none⟩)]) (.func (.func 119) #[] #[.pointer (some ⟨n + 11 + 1, 0, none⟩), .pointer (some ⟨n + 11 + 1 + 1, 0, none⟩), .pointer (some ⟨n + 11, 0, none⟩)]) (.func (.func 109) #[] #[.pointer (some ⟨n + 14 + 1, 0, none⟩), .pointer (some ⟨n + 14, 0, none⟩)])
      have NX : Hid (o1 = none → ∀ (i : Nat) x, i < 1 + 1 → l[i]? = some x → x.2 = none) := Lib.hid (fun e i x hi hx => by
        by_cases hij : i = 1
        · subst hij; obtain rfl := Option.some.inj (hx.symm.trans LL1.out); exact e
        · exact HA.out i x (by omega) hx)
      have HIT : Hid (∀ p, o1 = some p → ck = (7, p)) := Lib.hid (fun p e => by rw [CK.out]; exact first_hit (q := 1) (by rw [LL1.out, e]) HA.out)
      have RC := Lib.hid (RU1.out n _ BW.out LIW.out)
      clear RU0 RU1 RU2 RU3 RU4 RU5 RU6 RU7 LL0 LL1 LL2 LL3 LL4 LL5 LL6 LL7 LE HA LIW
      go_wp2_with (refine Row.wpList_load_g 32 _ rfl (by first | rfl | go_simp) ⟨w.heap.size, 0, none⟩ rfl c _ LTW.out Tryz.underlying32 rfl IA.out ?_)
      (try go_wp2_with fail)
      clear ix
      refine RC.out.mono ?_
      rintro e u1 ⟨rfl, hb⟩
      have D0 : Hid (Below w.heap.size w u1) := Lib.hid (BW.out.trans (hb.mono BW.out.size))
      have D3 := Lib.hid (HB.out.trans (hb.mono HB.out.size))
      clear hb BW HB LTW RC
      cases o1 with
      | none =>
        have NN := Lib.hid (NX.out rfl)
        clear NX HIT
        go_upto_region 5 with (refine Row.wpList_store_new rfl 37 _ _ rfl u1 _ #[I 0, I 0] rfl rfl rfl infoF rfl (by simp [Value.oneCell']) ?_)
        have hg := Row.lies_new u1 #[I 0, I 0] 37
        have HL : Hid (Lies (u1.alloc (.cells #[I 0, I 0] 37)) ⟨u1.heap.size, 0, none⟩ #[I 0, I 0].toList) := Lib.hid hg
        have F0 : Hid (Below w.heap.size w (u1.alloc (.cells #[I 0, I 0] 37))) := Lib.hid (D0.out.alloc D0.out.size _)
        have F3 : Hid (Below W2.heap.size W2 (u1.alloc (.cells #[I 0, I 0] 37))) := Lib.hid (D3.out.alloc D3.out.size _)
        clear hg D0 D3
        generalize u1.alloc (.cells #[I 0, I 0] 37) = u2 at HL F0 F3 ⊢
        generalize u1.heap.size = b2 at HL ⊢
        have EQ := Lib.hid (show Eqs 37 [I 0, I 0] [I 0, I 0] true from fault_eqs 0 0 0 0)
        go_wp2_with (first | (refine Row.wpList_load_g 37 _ rfl (by first | rfl | go_simp) ⟨b2, 0, none⟩ rfl [I 0, I 0] _ HL.out Tryz.underlying37 rfl infoF ?_) | (refine Row.wpList_neq 37 _ _ _ rfl (by rfl) #[I 0, I 0] #[I 0, I 0] rfl rfl guardF true EQ.out ?_))
        (try go_wp2)
        go_roundw
        case rel => exact ⟨1 + 1, by omega, by go_num, NN.out, F3.out⟩
        case measure => simp [intOf]
      | some p =>
        have CP := Lib.hid (HIT.out p rfl)
        clear NX HIT
        go_upto_region 5 with (refine Row.wpList_store_new rfl 37 _ _ rfl u1 _ #[I 7, I p] rfl rfl rfl infoF rfl (by simp [Value.oneCell']) ?_)
        have hg := Row.lies_new u1 #[I 7, I p] 37
        have HL : Hid (Lies (u1.alloc (.cells #[I 7, I p] 37)) ⟨u1.heap.size, 0, none⟩ #[I 7, I p].toList) := Lib.hid hg
        have F0 : Hid (Below w.heap.size w (u1.alloc (.cells #[I 7, I p] 37))) := Lib.hid (D0.out.alloc D0.out.size _)
        have F3 : Hid (Below W2.heap.size W2 (u1.alloc (.cells #[I 7, I p] 37))) := Lib.hid (D3.out.alloc D3.out.size _)
        clear hg D0 D3
        generalize u1.alloc (.cells #[I 7, I p] 37) = u2 at HL F0 F3 ⊢
        generalize u1.heap.size = b2 at HL ⊢
        have EQ := Lib.hid (show Eqs 37 [I 7, I p] [I 0, I 0] false from by have := fault_eqs 7 p 0 0; rwa [decide_eq_false (by omega)] at this)
        have G2 : Hid (u2.heap[w.heap.size + 1]? = some (.cells #[.int .i64 0, .int .i64 0] 37 (0, 0))) := Lib.hid ((F3.out.block _ (Array.getElem?_eq_some_iff.1 C2.out).1).trans C2.out)
        have HW := Lib.hid (below_setRow F0.out (g := w.heap.size + 1) (by omega) #[I 7, I p])
        have HK := Lib.hid (setRow_heap u2 (w.heap.size + 1) _ #[I 7, I p] _ _ G2.out)
        go_wp2_with (first | (refine Row.wpList_load_g 37 _ rfl (by first | rfl | go_simp) ⟨b2, 0, none⟩ rfl [I 7, I p] _ HL.out Tryz.underlying37 rfl infoF ?_) | (refine Row.wpList_neq 37 _ _ _ rfl (by rfl) #[I 7, I p] #[I 0, I 0] rfl rfl guardF false EQ.out ?_) | (refine wpList_store_row rfl 37 _ _ rfl (w.heap.size + 1) #[I 7, I p] rfl rfl 37 _ G2.out infoF rfl (by simp [Value.oneCell']) ?_))
        generalize u2.setRow (w.heap.size + 1) #[I 7, I p] = uz at HW HK ⊢
        (try go_wp2_with fail)
        (try simp only [Exit.inBlock, Exit.then])
        refine bodyPost_ret (v := .agg #[I 7, I p]) ?_ rfl ⟨by rw [CP.out]; rfl, HW.out⟩
        exact results_cell_row rfl _ _ (w.heap.size + 1) 37 _ (0, 0) _ rfl HK.out Tryz.underlying37 rfl infoF
    · rw [show ((2 : Nat) : Int) = (2 : Int) from rfl]
      have ix := idx8_2 (.func (.func 73) #[] #[]) (.func (.func 109) #[] #[.pointer (some ⟨n + 1 + 1, 0, none⟩), .pointer (some ⟨n + 1, 0, none⟩)]) (.func (.func 76) #[] #[]) (.func (.func 109) #[] #[.pointer (some ⟨n + 3 + 1, 0, none⟩), .pointer (some ⟨n + 3, 0, none⟩)]) (.func (.func 113) #[] #[.pointer (some ⟨n + 5 + 1, 0, none⟩), .pointer (some ⟨n + 5 + 1 + 1, 0, none⟩), .pointer (some ⟨n + 5, 0, none⟩)]) (.func (.func 114) #[] #[.pointer (some ⟨n + 8 + 1, 0, none⟩), .pointer (some ⟨n + 8 + 1 + 1, 0, none⟩), .pointer (some ⟨n + 8, 0, none⟩)]) (.func (.func 119) #[] #[.pointer (some ⟨n + 11 + 1, 0, none⟩), .pointer (some ⟨n + 11 + 1 + 1, 0, none⟩), .pointer (some ⟨n + 11, 0, none⟩)]) (.func (.func 109) #[] #[.pointer (some ⟨n + 14 + 1, 0, none⟩), .pointer (some ⟨n + 14, 0, none⟩)])
      have NX : Hid (o2 = none → ∀ (i : Nat) x, i < 2 + 1 → l[i]? = some x → x.2 = none) := Lib.hid (fun e i x hi hx => by
        by_cases hij : i = 2
        · subst hij; obtain rfl := Option.some.inj (hx.symm.trans LL2.out); exact e
        · exact HA.out i x (by omega) hx)
      have HIT : Hid (∀ p, o2 = some p → ck = (8, p)) := Lib.hid (fun p e => by rw [CK.out]; exact first_hit (q := 2) (by rw [LL2.out, e]) HA.out)
      have RC := Lib.hid (RU2.out n _ BW.out LIW.out)
      clear RU0 RU1 RU2 RU3 RU4 RU5 RU6 RU7 LL0 LL1 LL2 LL3 LL4 LL5 LL6 LL7 LE HA LIW
      go_wp2_with (refine Row.wpList_load_g 32 _ rfl (by first | rfl | go_simp) ⟨w.heap.size, 0, none⟩ rfl c _ LTW.out Tryz.underlying32 rfl IA.out ?_)
      (try go_wp2_with fail)
      clear ix
      refine RC.out.mono ?_
      rintro e u1 ⟨rfl, hb⟩
      have D0 : Hid (Below w.heap.size w u1) := Lib.hid (BW.out.trans (hb.mono BW.out.size))
      have D3 := Lib.hid (HB.out.trans (hb.mono HB.out.size))
      clear hb BW HB LTW RC
      cases o2 with
      | none =>
        have NN := Lib.hid (NX.out rfl)
        clear NX HIT
        go_upto_region 5 with (refine Row.wpList_store_new rfl 37 _ _ rfl u1 _ #[I 0, I 0] rfl rfl rfl infoF rfl (by simp [Value.oneCell']) ?_)
        have hg := Row.lies_new u1 #[I 0, I 0] 37
        have HL : Hid (Lies (u1.alloc (.cells #[I 0, I 0] 37)) ⟨u1.heap.size, 0, none⟩ #[I 0, I 0].toList) := Lib.hid hg
        have F0 : Hid (Below w.heap.size w (u1.alloc (.cells #[I 0, I 0] 37))) := Lib.hid (D0.out.alloc D0.out.size _)
        have F3 : Hid (Below W2.heap.size W2 (u1.alloc (.cells #[I 0, I 0] 37))) := Lib.hid (D3.out.alloc D3.out.size _)
        clear hg D0 D3
        generalize u1.alloc (.cells #[I 0, I 0] 37) = u2 at HL F0 F3 ⊢
        generalize u1.heap.size = b2 at HL ⊢
        have EQ := Lib.hid (show Eqs 37 [I 0, I 0] [I 0, I 0] true from fault_eqs 0 0 0 0)
        go_wp2_with (first | (refine Row.wpList_load_g 37 _ rfl (by first | rfl | go_simp) ⟨b2, 0, none⟩ rfl [I 0, I 0] _ HL.out Tryz.underlying37 rfl infoF ?_) | (refine Row.wpList_neq 37 _ _ _ rfl (by rfl) #[I 0, I 0] #[I 0, I 0] rfl rfl guardF true EQ.out ?_))
        (try go_wp2)
        go_roundw
        case rel => exact ⟨2 + 1, by omega, by go_num, NN.out, F3.out⟩
        case measure => simp [intOf]
      | some p =>
        have CP := Lib.hid (HIT.out p rfl)
        clear NX HIT
        go_upto_region 5 with (refine Row.wpList_store_new rfl 37 _ _ rfl u1 _ #[I 8, I p] rfl rfl rfl infoF rfl (by simp [Value.oneCell']) ?_)
        have hg := Row.lies_new u1 #[I 8, I p] 37
        have HL : Hid (Lies (u1.alloc (.cells #[I 8, I p] 37)) ⟨u1.heap.size, 0, none⟩ #[I 8, I p].toList) := Lib.hid hg
        have F0 : Hid (Below w.heap.size w (u1.alloc (.cells #[I 8, I p] 37))) := Lib.hid (D0.out.alloc D0.out.size _)
        have F3 : Hid (Below W2.heap.size W2 (u1.alloc (.cells #[I 8, I p] 37))) := Lib.hid (D3.out.alloc D3.out.size _)
        clear hg D0 D3
        generalize u1.alloc (.cells #[I 8, I p] 37) = u2 at HL F0 F3 ⊢
        generalize u1.heap.size = b2 at HL ⊢
        have EQ := Lib.hid (show Eqs 37 [I 8, I p] [I 0, I 0] false from by have := fault_eqs 8 p 0 0; rwa [decide_eq_false (by omega)] at this)
        have G2 : Hid (u2.heap[w.heap.size + 1]? = some (.cells #[.int .i64 0, .int .i64 0] 37 (0, 0))) := Lib.hid ((F3.out.block _ (Array.getElem?_eq_some_iff.1 C2.out).1).trans C2.out)
        have HW := Lib.hid (below_setRow F0.out (g := w.heap.size + 1) (by omega) #[I 8, I p])
        have HK := Lib.hid (setRow_heap u2 (w.heap.size + 1) _ #[I 8, I p] _ _ G2.out)
        go_wp2_with (first | (refine Row.wpList_load_g 37 _ rfl (by first | rfl | go_simp) ⟨b2, 0, none⟩ rfl [I 8, I p] _ HL.out Tryz.underlying37 rfl infoF ?_) | (refine Row.wpList_neq 37 _ _ _ rfl (by rfl) #[I 8, I p] #[I 0, I 0] rfl rfl guardF false EQ.out ?_) | (refine wpList_store_row rfl 37 _ _ rfl (w.heap.size + 1) #[I 8, I p] rfl rfl 37 _ G2.out infoF rfl (by simp [Value.oneCell']) ?_))
        generalize u2.setRow (w.heap.size + 1) #[I 8, I p] = uz at HW HK ⊢
        (try go_wp2_with fail)
        (try simp only [Exit.inBlock, Exit.then])
        refine bodyPost_ret (v := .agg #[I 8, I p]) ?_ rfl ⟨by rw [CP.out]; rfl, HW.out⟩
        exact results_cell_row rfl _ _ (w.heap.size + 1) 37 _ (0, 0) _ rfl HK.out Tryz.underlying37 rfl infoF
    · rw [show ((3 : Nat) : Int) = (3 : Int) from rfl]
      have ix := idx8_3 (.func (.func 73) #[] #[]) (.func (.func 109) #[] #[.pointer (some ⟨n + 1 + 1, 0, none⟩), .pointer (some ⟨n + 1, 0, none⟩)]) (.func (.func 76) #[] #[]) (.func (.func 109) #[] #[.pointer (some ⟨n + 3 + 1, 0, none⟩), .pointer (some ⟨n + 3, 0, none⟩)]) (.func (.func 113) #[] #[.pointer (some ⟨n + 5 + 1, 0, none⟩), .pointer (some ⟨n + 5 + 1 + 1, 0, none⟩), .pointer (some ⟨n + 5, 0, none⟩)]) (.func (.func 114) #[] #[.pointer (some ⟨n + 8 + 1, 0, none⟩), .pointer (some ⟨n + 8 + 1 + 1, 0, none⟩), .pointer (some ⟨n + 8, 0, none⟩)]) (.func (.func 119) #[] #[.pointer (some ⟨n + 11 + 1, 0, none⟩), .pointer (some ⟨n + 11 + 1 + 1, 0, none⟩), .pointer (some ⟨n + 11, 0, none⟩)]) (.func (.func 109) #[] #[.pointer (some ⟨n + 14 + 1, 0, none⟩), .pointer (some ⟨n + 14, 0, none⟩)])
      have NX : Hid (o3 = none → ∀ (i : Nat) x, i < 3 + 1 → l[i]? = some x → x.2 = none) := Lib.hid (fun e i x hi hx => by
        by_cases hij : i = 3
        · subst hij; obtain rfl := Option.some.inj (hx.symm.trans LL3.out); exact e
        · exact HA.out i x (by omega) hx)
      have HIT : Hid (∀ p, o3 = some p → ck = (9, p)) := Lib.hid (fun p e => by rw [CK.out]; exact first_hit (q := 3) (by rw [LL3.out, e]) HA.out)
      have RC := Lib.hid (RU3.out n _ BW.out LIW.out)
      clear RU0 RU1 RU2 RU3 RU4 RU5 RU6 RU7 LL0 LL1 LL2 LL3 LL4 LL5 LL6 LL7 LE HA LIW
      go_wp2_with (refine Row.wpList_load_g 32 _ rfl (by first | rfl | go_simp) ⟨w.heap.size, 0, none⟩ rfl c _ LTW.out Tryz.underlying32 rfl IA.out ?_)
      (try go_wp2_with fail)
      clear ix
      refine RC.out.mono ?_
      rintro e u1 ⟨rfl, hb⟩
      have D0 : Hid (Below w.heap.size w u1) := Lib.hid (BW.out.trans (hb.mono BW.out.size))
      have D3 := Lib.hid (HB.out.trans (hb.mono HB.out.size))
      clear hb BW HB LTW RC
      cases o3 with
      | none =>
        have NN := Lib.hid (NX.out rfl)
        clear NX HIT
        go_upto_region 5 with (refine Row.wpList_store_new rfl 37 _ _ rfl u1 _ #[I 0, I 0] rfl rfl rfl infoF rfl (by simp [Value.oneCell']) ?_)
        have hg := Row.lies_new u1 #[I 0, I 0] 37
        have HL : Hid (Lies (u1.alloc (.cells #[I 0, I 0] 37)) ⟨u1.heap.size, 0, none⟩ #[I 0, I 0].toList) := Lib.hid hg
        have F0 : Hid (Below w.heap.size w (u1.alloc (.cells #[I 0, I 0] 37))) := Lib.hid (D0.out.alloc D0.out.size _)
        have F3 : Hid (Below W2.heap.size W2 (u1.alloc (.cells #[I 0, I 0] 37))) := Lib.hid (D3.out.alloc D3.out.size _)
        clear hg D0 D3
        generalize u1.alloc (.cells #[I 0, I 0] 37) = u2 at HL F0 F3 ⊢
        generalize u1.heap.size = b2 at HL ⊢
        have EQ := Lib.hid (show Eqs 37 [I 0, I 0] [I 0, I 0] true from fault_eqs 0 0 0 0)
        go_wp2_with (first | (refine Row.wpList_load_g 37 _ rfl (by first | rfl | go_simp) ⟨b2, 0, none⟩ rfl [I 0, I 0] _ HL.out Tryz.underlying37 rfl infoF ?_) | (refine Row.wpList_neq 37 _ _ _ rfl (by rfl) #[I 0, I 0] #[I 0, I 0] rfl rfl guardF true EQ.out ?_))
        (try go_wp2)
        go_roundw
        case rel => exact ⟨3 + 1, by omega, by go_num, NN.out, F3.out⟩
        case measure => simp [intOf]
      | some p =>
        have CP := Lib.hid (HIT.out p rfl)
        clear NX HIT
        go_upto_region 5 with (refine Row.wpList_store_new rfl 37 _ _ rfl u1 _ #[I 9, I p] rfl rfl rfl infoF rfl (by simp [Value.oneCell']) ?_)
        have hg := Row.lies_new u1 #[I 9, I p] 37
        have HL : Hid (Lies (u1.alloc (.cells #[I 9, I p] 37)) ⟨u1.heap.size, 0, none⟩ #[I 9, I p].toList) := Lib.hid hg
        have F0 : Hid (Below w.heap.size w (u1.alloc (.cells #[I 9, I p] 37))) := Lib.hid (D0.out.alloc D0.out.size _)
        have F3 : Hid (Below W2.heap.size W2 (u1.alloc (.cells #[I 9, I p] 37))) := Lib.hid (D3.out.alloc D3.out.size _)
        clear hg D0 D3
        generalize u1.alloc (.cells #[I 9, I p] 37) = u2 at HL F0 F3 ⊢
        generalize u1.heap.size = b2 at HL ⊢
        have EQ := Lib.hid (show Eqs 37 [I 9, I p] [I 0, I 0] false from by have := fault_eqs 9 p 0 0; rwa [decide_eq_false (by omega)] at this)
        have G2 : Hid (u2.heap[w.heap.size + 1]? = some (.cells #[.int .i64 0, .int .i64 0] 37 (0, 0))) := Lib.hid ((F3.out.block _ (Array.getElem?_eq_some_iff.1 C2.out).1).trans C2.out)
        have HW := Lib.hid (below_setRow F0.out (g := w.heap.size + 1) (by omega) #[I 9, I p])
        have HK := Lib.hid (setRow_heap u2 (w.heap.size + 1) _ #[I 9, I p] _ _ G2.out)
        go_wp2_with (first | (refine Row.wpList_load_g 37 _ rfl (by first | rfl | go_simp) ⟨b2, 0, none⟩ rfl [I 9, I p] _ HL.out Tryz.underlying37 rfl infoF ?_) | (refine Row.wpList_neq 37 _ _ _ rfl (by rfl) #[I 9, I p] #[I 0, I 0] rfl rfl guardF false EQ.out ?_) | (refine wpList_store_row rfl 37 _ _ rfl (w.heap.size + 1) #[I 9, I p] rfl rfl 37 _ G2.out infoF rfl (by simp [Value.oneCell']) ?_))
        generalize u2.setRow (w.heap.size + 1) #[I 9, I p] = uz at HW HK ⊢
        (try go_wp2_with fail)
        (try simp only [Exit.inBlock, Exit.then])
        refine bodyPost_ret (v := .agg #[I 9, I p]) ?_ rfl ⟨by rw [CP.out]; rfl, HW.out⟩
        exact results_cell_row rfl _ _ (w.heap.size + 1) 37 _ (0, 0) _ rfl HK.out Tryz.underlying37 rfl infoF
    · rw [show ((4 : Nat) : Int) = (4 : Int) from rfl]
      have ix := idx8_4 (.func (.func 73) #[] #[]) (.func (.func 109) #[] #[.pointer (some ⟨n + 1 + 1, 0, none⟩), .pointer (some ⟨n + 1, 0, none⟩)]) (.func (.func 76) #[] #[]) (.func (.func 109) #[] #[.pointer (some ⟨n + 3 + 1, 0, none⟩), .pointer (some ⟨n + 3, 0, none⟩)]) (.func (.func 113) #[] #[.pointer (some ⟨n + 5 + 1, 0, none⟩), .pointer (some ⟨n + 5 + 1 + 1, 0, none⟩), .pointer (some ⟨n + 5, 0, none⟩)]) (.func (.func 114) #[] #[.pointer (some ⟨n + 8 + 1, 0, none⟩), .pointer (some ⟨n + 8 + 1 + 1, 0, none⟩), .pointer (some ⟨n + 8, 0, none⟩)]) (.func (.func 119) #[] #[.pointer (some ⟨n + 11 + 1, 0, none⟩), .pointer (some ⟨n + 11 + 1 + 1, 0, none⟩), .pointer (some ⟨n + 11, 0, none⟩)]) (.func (.func 109) #[] #[.pointer (some ⟨n + 14 + 1, 0, none⟩), .pointer (some ⟨n + 14, 0, none⟩)])
      have NX : Hid (o4 = none → ∀ (i : Nat) x, i < 4 + 1 → l[i]? = some x → x.2 = none) := Lib.hid (fun e i x hi hx => by
        by_cases hij : i = 4
        · subst hij; obtain rfl := Option.some.inj (hx.symm.trans LL4.out); exact e
        · exact HA.out i x (by omega) hx)
      have HIT : Hid (∀ p, o4 = some p → ck = (10, p)) := Lib.hid (fun p e => by rw [CK.out]; exact first_hit (q := 4) (by rw [LL4.out, e]) HA.out)
      have RC := Lib.hid (RU4.out (HA.out 0 _ (by omega) LL0.out) n _ BW.out LIW.out)
      clear RU0 RU1 RU2 RU3 RU4 RU5 RU6 RU7 LL0 LL1 LL2 LL3 LL4 LL5 LL6 LL7 LE HA LIW
      go_wp2_with (refine Row.wpList_load_g 32 _ rfl (by first | rfl | go_simp) ⟨w.heap.size, 0, none⟩ rfl c _ LTW.out Tryz.underlying32 rfl IA.out ?_)
      (try go_wp2_with fail)
      clear ix
      refine RC.out.mono ?_
      rintro e u1 ⟨rfl, hb⟩
      have D0 : Hid (Below w.heap.size w u1) := Lib.hid (BW.out.trans (hb.mono BW.out.size))
      have D3 := Lib.hid (HB.out.trans (hb.mono HB.out.size))
      clear hb BW HB LTW RC
      cases o4 with
      | none =>
        have NN := Lib.hid (NX.out rfl)
        clear NX HIT
        go_upto_region 5 with (refine Row.wpList_store_new rfl 37 _ _ rfl u1 _ #[I 0, I 0] rfl rfl rfl infoF rfl (by simp [Value.oneCell']) ?_)
        have hg := Row.lies_new u1 #[I 0, I 0] 37
        have HL : Hid (Lies (u1.alloc (.cells #[I 0, I 0] 37)) ⟨u1.heap.size, 0, none⟩ #[I 0, I 0].toList) := Lib.hid hg
        have F0 : Hid (Below w.heap.size w (u1.alloc (.cells #[I 0, I 0] 37))) := Lib.hid (D0.out.alloc D0.out.size _)
        have F3 : Hid (Below W2.heap.size W2 (u1.alloc (.cells #[I 0, I 0] 37))) := Lib.hid (D3.out.alloc D3.out.size _)
        clear hg D0 D3
        generalize u1.alloc (.cells #[I 0, I 0] 37) = u2 at HL F0 F3 ⊢
        generalize u1.heap.size = b2 at HL ⊢
        have EQ := Lib.hid (show Eqs 37 [I 0, I 0] [I 0, I 0] true from fault_eqs 0 0 0 0)
        go_wp2_with (first | (refine Row.wpList_load_g 37 _ rfl (by first | rfl | go_simp) ⟨b2, 0, none⟩ rfl [I 0, I 0] _ HL.out Tryz.underlying37 rfl infoF ?_) | (refine Row.wpList_neq 37 _ _ _ rfl (by rfl) #[I 0, I 0] #[I 0, I 0] rfl rfl guardF true EQ.out ?_))
        (try go_wp2)
        go_roundw
        case rel => exact ⟨4 + 1, by omega, by go_num, NN.out, F3.out⟩
        case measure => simp [intOf]
      | some p =>
        have CP := Lib.hid (HIT.out p rfl)
        clear NX HIT
        go_upto_region 5 with (refine Row.wpList_store_new rfl 37 _ _ rfl u1 _ #[I 10, I p] rfl rfl rfl infoF rfl (by simp [Value.oneCell']) ?_)
        have hg := Row.lies_new u1 #[I 10, I p] 37
        have HL : Hid (Lies (u1.alloc (.cells #[I 10, I p] 37)) ⟨u1.heap.size, 0, none⟩ #[I 10, I p].toList) := Lib.hid hg
        have F0 : Hid (Below w.heap.size w (u1.alloc (.cells #[I 10, I p] 37))) := Lib.hid (D0.out.alloc D0.out.size _)
        have F3 : Hid (Below W2.heap.size W2 (u1.alloc (.cells #[I 10, I p] 37))) := Lib.hid (D3.out.alloc D3.out.size _)
        clear hg D0 D3
        generalize u1.alloc (.cells #[I 10, I p] 37) = u2 at HL F0 F3 ⊢
        generalize u1.heap.size = b2 at HL ⊢
        have EQ := Lib.hid (show Eqs 37 [I 10, I p] [I 0, I 0] false from by have := fault_eqs 10 p 0 0; rwa [decide_eq_false (by omega)] at this)
        have G2 : Hid (u2.heap[w.heap.size + 1]? = some (.cells #[.int .i64 0, .int .i64 0] 37 (0, 0))) := Lib.hid ((F3.out.block _ (Array.getElem?_eq_some_iff.1 C2.out).1).trans C2.out)
        have HW := Lib.hid (below_setRow F0.out (g := w.heap.size + 1) (by omega) #[I 10, I p])
        have HK := Lib.hid (setRow_heap u2 (w.heap.size + 1) _ #[I 10, I p] _ _ G2.out)
        go_wp2_with (first | (refine Row.wpList_load_g 37 _ rfl (by first | rfl | go_simp) ⟨b2, 0, none⟩ rfl [I 10, I p] _ HL.out Tryz.underlying37 rfl infoF ?_) | (refine Row.wpList_neq 37 _ _ _ rfl (by rfl) #[I 10, I p] #[I 0, I 0] rfl rfl guardF false EQ.out ?_) | (refine wpList_store_row rfl 37 _ _ rfl (w.heap.size + 1) #[I 10, I p] rfl rfl 37 _ G2.out infoF rfl (by simp [Value.oneCell']) ?_))
        generalize u2.setRow (w.heap.size + 1) #[I 10, I p] = uz at HW HK ⊢
        (try go_wp2_with fail)
        (try simp only [Exit.inBlock, Exit.then])
        refine bodyPost_ret (v := .agg #[I 10, I p]) ?_ rfl ⟨by rw [CP.out]; rfl, HW.out⟩
        exact results_cell_row rfl _ _ (w.heap.size + 1) 37 _ (0, 0) _ rfl HK.out Tryz.underlying37 rfl infoF
    · rw [show ((5 : Nat) : Int) = (5 : Int) from rfl]
      have ix := idx8_5 (.func (.func 73) #[] #[]) (.func (.func 109) #[] #[.pointer (some ⟨n + 1 + 1, 0, none⟩), .pointer (some ⟨n + 1, 0, none⟩)]) (.func (.func 76) #[] #[]) (.func (.func 109) #[] #[.pointer (some ⟨n + 3 + 1, 0, none⟩), .pointer (some ⟨n + 3, 0, none⟩)]) (.func (.func 113) #[] #[.pointer (some ⟨n + 5 + 1, 0, none⟩), .pointer (some ⟨n + 5 + 1 + 1, 0, none⟩), .pointer (some ⟨n + 5, 0, none⟩)]) (.func (.func 114) #[] #[.pointer (some ⟨n + 8 + 1, 0, none⟩), .pointer (some ⟨n + 8 + 1 + 1, 0, none⟩), .pointer (some ⟨n + 8, 0, none⟩)]) (.func (.func 119) #[] #[.pointer (some ⟨n + 11 + 1, 0, none⟩), .pointer (some ⟨n + 11 + 1 + 1, 0, none⟩), .pointer (some ⟨n + 11, 0, none⟩)]) (.func (.func 109) #[] #[.pointer (some ⟨n + 14 + 1, 0, none⟩), .pointer (some ⟨n + 14, 0, none⟩)])
      have NX : Hid (o5 = none → ∀ (i : Nat) x, i < 5 + 1 → l[i]? = some x → x.2 = none) := Lib.hid (fun e i x hi hx => by
        by_cases hij : i = 5
        · subst hij; obtain rfl := Option.some.inj (hx.symm.trans LL5.out); exact e
        · exact HA.out i x (by omega) hx)
      have HIT : Hid (∀ p, o5 = some p → ck = (11, p)) := Lib.hid (fun p e => by rw [CK.out]; exact first_hit (q := 5) (by rw [LL5.out, e]) HA.out)
      have RC := Lib.hid (RU5.out n _ BW.out LIW.out)
      clear RU0 RU1 RU2 RU3 RU4 RU5 RU6 RU7 LL0 LL1 LL2 LL3 LL4 LL5 LL6 LL7 LE HA LIW
      go_wp2_with (refine Row.wpList_load_g 32 _ rfl (by first | rfl | go_simp) ⟨w.heap.size, 0, none⟩ rfl c _ LTW.out Tryz.underlying32 rfl IA.out ?_)
      (try go_wp2_with fail)
      clear ix
      refine RC.out.mono ?_
      rintro e u1 ⟨rfl, hb⟩
      have D0 : Hid (Below w.heap.size w u1) := Lib.hid (BW.out.trans (hb.mono BW.out.size))
      have D3 := Lib.hid (HB.out.trans (hb.mono HB.out.size))
      clear hb BW HB LTW RC
      cases o5 with
      | none =>
        have NN := Lib.hid (NX.out rfl)
        clear NX HIT
        go_upto_region 5 with (refine Row.wpList_store_new rfl 37 _ _ rfl u1 _ #[I 0, I 0] rfl rfl rfl infoF rfl (by simp [Value.oneCell']) ?_)
        have hg := Row.lies_new u1 #[I 0, I 0] 37
        have HL : Hid (Lies (u1.alloc (.cells #[I 0, I 0] 37)) ⟨u1.heap.size, 0, none⟩ #[I 0, I 0].toList) := Lib.hid hg
        have F0 : Hid (Below w.heap.size w (u1.alloc (.cells #[I 0, I 0] 37))) := Lib.hid (D0.out.alloc D0.out.size _)
        have F3 : Hid (Below W2.heap.size W2 (u1.alloc (.cells #[I 0, I 0] 37))) := Lib.hid (D3.out.alloc D3.out.size _)
        clear hg D0 D3
        generalize u1.alloc (.cells #[I 0, I 0] 37) = u2 at HL F0 F3 ⊢
        generalize u1.heap.size = b2 at HL ⊢
        have EQ := Lib.hid (show Eqs 37 [I 0, I 0] [I 0, I 0] true from fault_eqs 0 0 0 0)
        go_wp2_with (first | (refine Row.wpList_load_g 37 _ rfl (by first | rfl | go_simp) ⟨b2, 0, none⟩ rfl [I 0, I 0] _ HL.out Tryz.underlying37 rfl infoF ?_) | (refine Row.wpList_neq 37 _ _ _ rfl (by rfl) #[I 0, I 0] #[I 0, I 0] rfl rfl guardF true EQ.out ?_))
        (try go_wp2)
        go_roundw
        case rel => exact ⟨5 + 1, by omega, by go_num, NN.out, F3.out⟩
        case measure => simp [intOf]
      | some p =>
        have CP := Lib.hid (HIT.out p rfl)
        clear NX HIT
        go_upto_region 5 with (refine Row.wpList_store_new rfl 37 _ _ rfl u1 _ #[I 11, I p] rfl rfl rfl infoF rfl (by simp [Value.oneCell']) ?_)
        have hg := Row.lies_new u1 #[I 11, I p] 37
        have HL : Hid (Lies (u1.alloc (.cells #[I 11, I p] 37)) ⟨u1.heap.size, 0, none⟩ #[I 11, I p].toList) := Lib.hid hg
        have F0 : Hid (Below w.heap.size w (u1.alloc (.cells #[I 11, I p] 37))) := Lib.hid (D0.out.alloc D0.out.size _)
        have F3 : Hid (Below W2.heap.size W2 (u1.alloc (.cells #[I 11, I p] 37))) := Lib.hid (D3.out.alloc D3.out.size _)
        clear hg D0 D3
        generalize u1.alloc (.cells #[I 11, I p] 37) = u2 at HL F0 F3 ⊢
        generalize u1.heap.size = b2 at HL ⊢
        have EQ := Lib.hid (show Eqs 37 [I 11, I p] [I 0, I 0] false from by have := fault_eqs 11 p 0 0; rwa [decide_eq_false (by omega)] at this)
        have G2 : Hid (u2.heap[w.heap.size + 1]? = some (.cells #[.int .i64 0, .int .i64 0] 37 (0, 0))) := Lib.hid ((F3.out.block _ (Array.getElem?_eq_some_iff.1 C2.out).1).trans C2.out)
        have HW := Lib.hid (below_setRow F0.out (g := w.heap.size + 1) (by omega) #[I 11, I p])
        have HK := Lib.hid (setRow_heap u2 (w.heap.size + 1) _ #[I 11, I p] _ _ G2.out)
        go_wp2_with (first | (refine Row.wpList_load_g 37 _ rfl (by first | rfl | go_simp) ⟨b2, 0, none⟩ rfl [I 11, I p] _ HL.out Tryz.underlying37 rfl infoF ?_) | (refine Row.wpList_neq 37 _ _ _ rfl (by rfl) #[I 11, I p] #[I 0, I 0] rfl rfl guardF false EQ.out ?_) | (refine wpList_store_row rfl 37 _ _ rfl (w.heap.size + 1) #[I 11, I p] rfl rfl 37 _ G2.out infoF rfl (by simp [Value.oneCell']) ?_))
        generalize u2.setRow (w.heap.size + 1) #[I 11, I p] = uz at HW HK ⊢
        (try go_wp2_with fail)
        (try simp only [Exit.inBlock, Exit.then])
        refine bodyPost_ret (v := .agg #[I 11, I p]) ?_ rfl ⟨by rw [CP.out]; rfl, HW.out⟩
        exact results_cell_row rfl _ _ (w.heap.size + 1) 37 _ (0, 0) _ rfl HK.out Tryz.underlying37 rfl infoF
    · rw [show ((6 : Nat) : Int) = (6 : Int) from rfl]
      have ix := idx8_6 (.func (.func 73) #[] #[]) (.func (.func 109) #[] #[.pointer (some ⟨n + 1 + 1, 0, none⟩), .pointer (some ⟨n + 1, 0, none⟩)]) (.func (.func 76) #[] #[]) (.func (.func 109) #[] #[.pointer (some ⟨n + 3 + 1, 0, none⟩), .pointer (some ⟨n + 3, 0, none⟩)]) (.func (.func 113) #[] #[.pointer (some ⟨n + 5 + 1, 0, none⟩), .pointer (some ⟨n + 5 + 1 + 1, 0, none⟩), .pointer (some ⟨n + 5, 0, none⟩)]) (.func (.func 114) #[] #[.pointer (some ⟨n + 8 + 1, 0, none⟩), .pointer (some ⟨n + 8 + 1 + 1, 0, none⟩), .pointer (some ⟨n + 8, 0, none⟩)]) (.func (.func 119) #[] #[.pointer (some ⟨n + 11 + 1, 0, none⟩), .pointer (some ⟨n + 11 + 1 + 1, 0, none⟩), .pointer (some ⟨n + 11, 0, none⟩)]) (.func (.func 109) #[] #[.pointer (some ⟨n + 14 + 1, 0, none⟩), .pointer (some ⟨n + 14, 0, none⟩)])
      have NX : Hid (o6 = none → ∀ (i : Nat) x, i < 6 + 1 → l[i]? = some x → x.2 = none) := Lib.hid (fun e i x hi hx => by
        by_cases hij : i = 6
        · subst hij; obtain rfl := Option.some.inj (hx.symm.trans LL6.out); exact e
        · exact HA.out i x (by omega) hx)
      have HIT : Hid (∀ p, o6 = some p → ck = (12, p)) := Lib.hid (fun p e => by rw [CK.out]; exact first_hit (q := 6) (by rw [LL6.out, e]) HA.out)
      have RC := Lib.hid (RU6.out n _ BW.out LIW.out)
      clear RU0 RU1 RU2 RU3 RU4 RU5 RU6 RU7 LL0 LL1 LL2 LL3 LL4 LL5 LL6 LL7 LE HA LIW
      go_wp2_with (refine Row.wpList_load_g 32 _ rfl (by first | rfl | go_simp) ⟨w.heap.size, 0, none⟩ rfl c _ LTW.out Tryz.underlying32 rfl IA.out ?_)
      (try go_wp2_with fail)
      clear ix
      refine RC.out.mono ?_
      rintro e u1 ⟨rfl, hb⟩
      have D0 : Hid (Below w.heap.size w u1) := Lib.hid (BW.out.trans (hb.mono BW.out.size))
      have D3 := Lib.hid (HB.out.trans (hb.mono HB.out.size))
      clear hb BW HB LTW RC
      cases o6 with
      | none =>
        have NN := Lib.hid (NX.out rfl)
        clear NX HIT
        go_upto_region 5 with (refine Row.wpList_store_new rfl 37 _ _ rfl u1 _ #[I 0, I 0] rfl rfl rfl infoF rfl (by simp [Value.oneCell']) ?_)
        have hg := Row.lies_new u1 #[I 0, I 0] 37
        have HL : Hid (Lies (u1.alloc (.cells #[I 0, I 0] 37)) ⟨u1.heap.size, 0, none⟩ #[I 0, I 0].toList) := Lib.hid hg
        have F0 : Hid (Below w.heap.size w (u1.alloc (.cells #[I 0, I 0] 37))) := Lib.hid (D0.out.alloc D0.out.size _)
        have F3 : Hid (Below W2.heap.size W2 (u1.alloc (.cells #[I 0, I 0] 37))) := Lib.hid (D3.out.alloc D3.out.size _)
        clear hg D0 D3
        generalize u1.alloc (.cells #[I 0, I 0] 37) = u2 at HL F0 F3 ⊢
        generalize u1.heap.size = b2 at HL ⊢
        have EQ := Lib.hid (show Eqs 37 [I 0, I 0] [I 0, I 0] true from fault_eqs 0 0 0 0)
        go_wp2_with (first | (refine Row.wpList_load_g 37 _ rfl (by first | rfl | go_simp) ⟨b2, 0, none⟩ rfl [I 0, I 0] _ HL.out Tryz.underlying37 rfl infoF ?_) | (refine Row.wpList_neq 37 _ _ _ rfl (by rfl) #[I 0, I 0] #[I 0, I 0] rfl rfl guardF true EQ.out ?_))
        (try go_wp2)
        go_roundw
        case rel => exact ⟨6 + 1, by omega, by go_num, NN.out, F3.out⟩
        case measure => simp [intOf]
      | some p =>
        have CP := Lib.hid (HIT.out p rfl)
        clear NX HIT
        go_upto_region 5 with (refine Row.wpList_store_new rfl 37 _ _ rfl u1 _ #[I 12, I p] rfl rfl rfl infoF rfl (by simp [Value.oneCell']) ?_)
        have hg := Row.lies_new u1 #[I 12, I p] 37
        have HL : Hid (Lies (u1.alloc (.cells #[I 12, I p] 37)) ⟨u1.heap.size, 0, none⟩ #[I 12, I p].toList) := Lib.hid hg
        have F0 : Hid (Below w.heap.size w (u1.alloc (.cells #[I 12, I p] 37))) := Lib.hid (D0.out.alloc D0.out.size _)
        have F3 : Hid (Below W2.heap.size W2 (u1.alloc (.cells #[I 12, I p] 37))) := Lib.hid (D3.out.alloc D3.out.size _)
        clear hg D0 D3
        generalize u1.alloc (.cells #[I 12, I p] 37) = u2 at HL F0 F3 ⊢
        generalize u1.heap.size = b2 at HL ⊢
        have EQ := Lib.hid (show Eqs 37 [I 12, I p] [I 0, I 0] false from by have := fault_eqs 12 p 0 0; rwa [decide_eq_false (by omega)] at this)
        have G2 : Hid (u2.heap[w.heap.size + 1]? = some (.cells #[.int .i64 0, .int .i64 0] 37 (0, 0))) := Lib.hid ((F3.out.block _ (Array.getElem?_eq_some_iff.1 C2.out).1).trans C2.out)
        have HW := Lib.hid (below_setRow F0.out (g := w.heap.size + 1) (by omega) #[I 12, I p])
        have HK := Lib.hid (setRow_heap u2 (w.heap.size + 1) _ #[I 12, I p] _ _ G2.out)
        go_wp2_with (first | (refine Row.wpList_load_g 37 _ rfl (by first | rfl | go_simp) ⟨b2, 0, none⟩ rfl [I 12, I p] _ HL.out Tryz.underlying37 rfl infoF ?_) | (refine Row.wpList_neq 37 _ _ _ rfl (by rfl) #[I 12, I p] #[I 0, I 0] rfl rfl guardF false EQ.out ?_) | (refine wpList_store_row rfl 37 _ _ rfl (w.heap.size + 1) #[I 12, I p] rfl rfl 37 _ G2.out infoF rfl (by simp [Value.oneCell']) ?_))
        generalize u2.setRow (w.heap.size + 1) #[I 12, I p] = uz at HW HK ⊢
        (try go_wp2_with fail)
        (try simp only [Exit.inBlock, Exit.then])
        refine bodyPost_ret (v := .agg #[I 12, I p]) ?_ rfl ⟨by rw [CP.out]; rfl, HW.out⟩
        exact results_cell_row rfl _ _ (w.heap.size + 1) 37 _ (0, 0) _ rfl HK.out Tryz.underlying37 rfl infoF
    · rw [show ((7 : Nat) : Int) = (7 : Int) from rfl]
      have ix := idx8_7 (.func (.func 73) #[] #[]) (.func (.func 109) #[] #[.pointer (some ⟨n + 1 + 1, 0, none⟩), .pointer (some ⟨n + 1, 0, none⟩)]) (.func (.func 76) #[] #[]) (.func (.func 109) #[] #[.pointer (some ⟨n + 3 + 1, 0, none⟩), .pointer (some ⟨n + 3, 0, none⟩)]) (.func (.func 113) #[] #[.pointer (some ⟨n + 5 + 1, 0, none⟩), .pointer (some ⟨n + 5 + 1 + 1, 0, none⟩), .pointer (some ⟨n + 5, 0, none⟩)]) (.func (.func 114) #[] #[.pointer (some ⟨n + 8 + 1, 0, none⟩), .pointer (some ⟨n + 8 + 1 + 1, 0, none⟩), .pointer (some ⟨n + 8, 0, none⟩)]) (.func (.func 119) #[] #[.pointer (some ⟨n + 11 + 1, 0, none⟩), .pointer (some ⟨n + 11 + 1 + 1, 0, none⟩), .pointer (some ⟨n + 11, 0, none⟩)]) (.func (.func 109) #[] #[.pointer (some ⟨n + 14 + 1, 0, none⟩), .pointer (some ⟨n + 14, 0, none⟩)])
      have NX : Hid (o7 = none → ∀ (i : Nat) x, i < 7 + 1 → l[i]? = some x → x.2 = none) := Lib.hid (fun e i x hi hx => by
        by_cases hij : i = 7
        · subst hij; obtain rfl := Option.some.inj (hx.symm.trans LL7.out); exact e
        · exact HA.out i x (by omega) hx)
      have HIT : Hid (∀ p, o7 = some p → ck = (13, p)) := Lib.hid (fun p e => by rw [CK.out]; exact first_hit (q := 7) (by rw [LL7.out, e]) HA.out)
      have RC := Lib.hid (RU7.out n _ BW.out LIW.out)
      clear RU0 RU1 RU2 RU3 RU4 RU5 RU6 RU7 LL0 LL1 LL2 LL3 LL4 LL5 LL6 LL7 LE HA LIW
      go_wp2_with (refine Row.wpList_load_g 32 _ rfl (by first | rfl | go_simp) ⟨w.heap.size, 0, none⟩ rfl c _ LTW.out Tryz.underlying32 rfl IA.out ?_)
      (try go_wp2_with fail)
      clear ix
      refine RC.out.mono ?_
      rintro e u1 ⟨rfl, hb⟩
      have D0 : Hid (Below w.heap.size w u1) := Lib.hid (BW.out.trans (hb.mono BW.out.size))
      have D3 := Lib.hid (HB.out.trans (hb.mono HB.out.size))
      clear hb BW HB LTW RC
      cases o7 with
      | none =>
        have NN := Lib.hid (NX.out rfl)
        clear NX HIT
        go_upto_region 5 with (refine Row.wpList_store_new rfl 37 _ _ rfl u1 _ #[I 0, I 0] rfl rfl rfl infoF rfl (by simp [Value.oneCell']) ?_)
        have hg := Row.lies_new u1 #[I 0, I 0] 37
        have HL : Hid (Lies (u1.alloc (.cells #[I 0, I 0] 37)) ⟨u1.heap.size, 0, none⟩ #[I 0, I 0].toList) := Lib.hid hg
        have F0 : Hid (Below w.heap.size w (u1.alloc (.cells #[I 0, I 0] 37))) := Lib.hid (D0.out.alloc D0.out.size _)
        have F3 : Hid (Below W2.heap.size W2 (u1.alloc (.cells #[I 0, I 0] 37))) := Lib.hid (D3.out.alloc D3.out.size _)
        clear hg D0 D3
        generalize u1.alloc (.cells #[I 0, I 0] 37) = u2 at HL F0 F3 ⊢
        generalize u1.heap.size = b2 at HL ⊢
        have EQ := Lib.hid (show Eqs 37 [I 0, I 0] [I 0, I 0] true from fault_eqs 0 0 0 0)
        go_wp2_with (first | (refine Row.wpList_load_g 37 _ rfl (by first | rfl | go_simp) ⟨b2, 0, none⟩ rfl [I 0, I 0] _ HL.out Tryz.underlying37 rfl infoF ?_) | (refine Row.wpList_neq 37 _ _ _ rfl (by rfl) #[I 0, I 0] #[I 0, I 0] rfl rfl guardF true EQ.out ?_))
        (try go_wp2)
        go_roundw
        case rel => exact ⟨7 + 1, by omega, by go_num, NN.out, F3.out⟩
        case measure => simp [intOf]
      | some p =>
        have CP := Lib.hid (HIT.out p rfl)
        clear NX HIT
        go_upto_region 5 with (refine Row.wpList_store_new rfl 37 _ _ rfl u1 _ #[I 13, I p] rfl rfl rfl infoF rfl (by simp [Value.oneCell']) ?_)
        have hg := Row.lies_new u1 #[I 13, I p] 37
        have HL : Hid (Lies (u1.alloc (.cells #[I 13, I p] 37)) ⟨u1.heap.size, 0, none⟩ #[I 13, I p].toList) := Lib.hid hg
        have F0 : Hid (Below w.heap.size w (u1.alloc (.cells #[I 13, I p] 37))) := Lib.hid (D0.out.alloc D0.out.size _)
        have F3 : Hid (Below W2.heap.size W2 (u1.alloc (.cells #[I 13, I p] 37))) := Lib.hid (D3.out.alloc D3.out.size _)
        clear hg D0 D3
        generalize u1.alloc (.cells #[I 13, I p] 37) = u2 at HL F0 F3 ⊢
        generalize u1.heap.size = b2 at HL ⊢
        have EQ := Lib.hid (show Eqs 37 [I 13, I p] [I 0, I 0] false from by have := fault_eqs 13 p 0 0; rwa [decide_eq_false (by omega)] at this)
        have G2 : Hid (u2.heap[w.heap.size + 1]? = some (.cells #[.int .i64 0, .int .i64 0] 37 (0, 0))) := Lib.hid ((F3.out.block _ (Array.getElem?_eq_some_iff.1 C2.out).1).trans C2.out)
        have HW := Lib.hid (below_setRow F0.out (g := w.heap.size + 1) (by omega) #[I 13, I p])
        have HK := Lib.hid (setRow_heap u2 (w.heap.size + 1) _ #[I 13, I p] _ _ G2.out)
        go_wp2_with (first | (refine Row.wpList_load_g 37 _ rfl (by first | rfl | go_simp) ⟨b2, 0, none⟩ rfl [I 13, I p] _ HL.out Tryz.underlying37 rfl infoF ?_) | (refine Row.wpList_neq 37 _ _ _ rfl (by rfl) #[I 13, I p] #[I 0, I 0] rfl rfl guardF false EQ.out ?_) | (refine wpList_store_row rfl 37 _ _ rfl (w.heap.size + 1) #[I 13, I p] rfl rfl 37 _ G2.out infoF rfl (by simp [Value.oneCell']) ?_))
        generalize u2.setRow (w.heap.size + 1) #[I 13, I p] = uz at HW HK ⊢
        (try go_wp2_with fail)
        (try simp only [Exit.inBlock, Exit.then])
        refine bodyPost_ret (v := .agg #[I 13, I p]) ?_ rfl ⟨by rw [CP.out]; rfl, HW.out⟩
        exact results_cell_row rfl _ _ (w.heap.size + 1) 37 _ (0, 0) _ rfl HK.out Tryz.underlying37 rfl infoF
    · rw [show ((8 : Nat) : Int) = (8 : Int) from rfl]
      have RO := Lib.hid (show ck = (0, 0) by rw [CK.out]; exact first_miss (fun x hx => by obtain ⟨j, hj, rfl⟩ := List.getElem_of_mem hx; have h1 := List.getElem?_eq_getElem hj; exact HA.out j _ (LE.out j _ h1) h1))
      have G2 : Hid (wr.heap[w.heap.size + 1]? = some (.cells #[.int .i64 0, .int .i64 0] 37 (0, 0))) := Lib.hid ((HB.out.block _ (Array.getElem?_eq_some_iff.1 C2.out).1).trans C2.out)
      clear RU0 RU1 RU2 RU3 RU4 RU5 RU6 RU7 LL0 LL1 LL2 LL3 LL4 LL5 LL6 LL7 LE HA LIW
      have HW := Lib.hid (below_setRow BW.out (g := w.heap.size + 1) (by omega) #[.int .i64 0, .int .i64 0])
      have HK := Lib.hid (setRow_heap wr (w.heap.size + 1) _ #[.int .i64 0, .int .i64 0] _ _ G2.out)
      go_wp2_with (first | (refine wpList_store_row rfl 37 _ _ rfl (w.heap.size + 1) #[.int .i64 0, .int .i64 0] rfl rfl 37 _ G2.out infoF rfl (by simp [Value.oneCell']) ?_))
      generalize wr.setRow (w.heap.size + 1) #[.int .i64 0, .int .i64 0] = uz at HW HK ⊢
      (try go_wp2_with fail)
      (try simp only [Exit.inBlock, Exit.then])
      refine bodyPost_ret (v := .agg #[.int .i64 0, .int .i64 0]) ?_ rfl ⟨by rw [RO.out]; rfl, HW.out⟩
      exact results_cell_row rfl _ _ (w.heap.size + 1) 37 _ (0, 0) _ rfl HK.out Tryz.underlying37 rfl infoF
end Go.Proofs.YtjolhoilcibdfaaGreat.ChkK
/- The contracts of the document's own in, phase, flash and conflict. -/
namespace Go.Proofs.YtjolhoilcibdfaaGreat.RkA
open Go.ChangeShapes Go.WideShapes Go.ChangeAt Go.RowKit
open Tab PlaceM PlanM OnS ChkM ChkI
open RefS (rlist_any rhas_any row_of)
open May (ret_bool infoT infoP)
set_option linter.unusedVariables false
set_option linter.unusedSimpArgs false
theorem in_any (a b : Int) (w : World) : Calls Tryz.prog 53 #[.int .i64 a, .int .i64 b] w fun e w' => e = .returned (.bool (inR a b)) ∧ w = w' := by
  have HR : Hid (inR a b = (bits .and .i64 (bits .andNot .i64 a b) 255 == 0)) := Lib.hid rfl
  generalize inR a b = x at HR ⊢
  go_enter Tryz.func53, Tryz.ntmps53
  go_wp2
  go_ret
  exact ⟨ret_bool HR.out.symm, rfl⟩
set_option maxRecDepth 100000 in
set_option maxHeartbeats 4000000 in
theorem phase_any (ph : Ph) (w : World) :
    Calls Tryz.prog 49 #[.agg ph.cells.toArray] w fun e w' => e = .returned (.bool (phOk ph)) ∧ Below w.heap.size w w' := by
  obtain ⟨x, hx⟩ : ∃ x, x = phOk ph := ⟨_, rfl⟩
  rw [← hx]
  have HR := Lib.hid hx
  clear hx
  have E : Hid (Below w.heap.size w (w.alloc (.cells ph.cells.toArray 24))) := Lib.hid ((Below.refl _ _).alloc (Nat.le_refl _) _)
  obtain ⟨q1, q3, q4, q5, q6, q8, q9, q10⟩ := ChkB.phase_cells ph _ _ (heap_alloc_new w (.cells ph.cells.toArray 24))
  have hone := Ph.one ph
  have hsz : ph.cells.toArray.size = 13 := rfl
  generalize ph.cells.toArray = cs at *
  go_enter Tryz.func49, Tryz.ntmps49
  go_upto_region 1 with fail
  generalize w.alloc (.cells cs 24) = u2 at *
  clear hone hsz
  obtain ⟨on, min, gap, max, top, step, yellow, red, walk, blinks, recall, lock, rest⟩ := ph
  simp only at *
  go_wp2
  all_goals go_ret
  all_goals (refine ⟨ret_bool ?_, E.out⟩)
  all_goals (rw [HR.out]; unfold phOk; dsimp only)
  all_goals (clear HR q1 q3 q4 q5 q6 q8 q9 q10 E)
  all_goals (first | grind | (simp_all <;> omega))
set_option maxRecDepth 100000 in
set_option maxHeartbeats 4000000 in
theorem flash_any (T : Tab) (h : Hd) (k : Nat) (hk : k < 8) (w : World) (ht : IsTab w h T) :
    Calls Tryz.prog 54 #[.agg (T.cells h).toArray, .int .i64 k, .int .i64 (onS T : Nat)] w fun e w' => e = .returned (.bool (flashOk T k)) ∧ Below w.heap.size w w' := by
  have hsz := (cells_ok ht).size
  have BX0 := Lib.hid (bxd_new ht)
  have A0 : Hid (Below w.heap.size w (w.alloc (.cells (T.cells h).toArray 32))) := Lib.hid ((Below.refl _ _).alloc (Nat.le_refl _) _)
  obtain ⟨x, hx⟩ : ∃ x, x = flashOk T k := ⟨_, rfl⟩
  rw [← hx]
  have HR : Hid (x = (flAt T k != 0 && !(ons T).any (flashR T k))) := Lib.hid hx
  have FR : Hid (∀ q, flashR T k q = (flAt T k == 2 && (flAt T q == 2 && SetM.has (cfAt T k) q))) := Lib.hid (fun q => rfl)
  have BD := Lib.hid (fun q (hq : q ∈ ons T) => SetM.list_bd _ q hq)
  have HL := Lib.hid (show (ons T).length ≤ 8 from SetM.list_len _)
  have OL : Hid (SetM.list (onS T : Nat) = ons T) := Lib.hid rfl
  generalize ons T = L at *
  clear ht hx
  generalize T.cells h = c at *
  have hki : ((k : Nat) : Int) < 8 := by omega
  go_enter Tryz.func54, Tryz.ntmps54
  go_upto_region 1 with fail
  generalize w.alloc (.cells c.toArray 32) = u at A0 BX0 ⊢
  clear hsz
  have cf := BX0.out.fl k (by omega) (by omega)
  rw [Int.toNat_natCast] at cf
  generalize hfk : flAt T k = fk at *
  by_cases h0 : fk = 0
  · subst h0
    have HX : Hid (false = x) := Lib.hid (by rw [HR.out]; rfl)
    go_wp2
    go_ret
    exact ⟨ret_bool HX.out, A0.out⟩
  have HX : Hid (x = !L.any (flashR T k)) := Lib.hid (by rw [HR.out, bne_iff_ne.2 h0]; rfl)
  clear HR
  go_wp2_with fail
  refine (rlist_any _ _).mono ?_
  rintro e u1 ⟨v, rfl, hown, hb⟩
  rw [OL.out] at hown
  obtain ⟨a, cap, rfl, hrow⟩ := row_of hown
  have HROW := Lib.hid hrow
  have B0 : Hid (Below w.heap.size w u1) := Lib.hid (A0.out.trans (hb.mono A0.out.size))
  have BX := Lib.hid (BX0.out.below hb)
  clear hown hrow hb A0 BX0 cf
  have hl8 := HL.out
  go_wp2_with fail
  go_loopw [17] (fun i wr => ∃ q : Nat, q ≤ L.length ∧ i = .int .i64 q ∧ (∀ j, j < q → flashR T k (L.getD j 0) = false) ∧ wr = u1) (fun i _ => L.length - (intOf i).toNat)
  case atStart => exact ⟨0, by omega, rfl, (fun j h => by omega), rfl⟩
  case round =>
    obtain ⟨q, hq, rfl, hall, rfl⟩ := hrel
    rename World => wg
    have HA := Lib.hid hall
    clear hall
    by_cases hlt : q < L.length
    · obtain ⟨y, rfl, hcells⟩ := HROW.out.cells hlt
      have cq := hcells q hlt
      have hmem : L.getD q 0 ∈ L := by rw [List.getD_eq_getElem?_getD, List.getElem?_eq_getElem hlt]; exact List.getElem_mem hlt
      have hbd := BD.out _ hmem
      generalize hz : L.getD q 0 = z at *
      have HZ := Lib.hid hz
      have HM := Lib.hid hmem
      clear hcells hz hmem
      obtain ⟨j, rfl⟩ := Int.eq_ofNat_of_zero_le hbd.1
      have hj8 : ((j : Nat) : Int) < 8 := hbd.2
      have fk' := BX.out.fl k (by omega) (by omega)
      have fj := BX.out.fl j (by omega) (by omega)
      have ck := BX.out.cf k (by omega) (by omega)
      rw [Int.toNat_natCast] at fk' fj ck
      rw [hfk] at fk'
      have FQ : Hid (flashR T k j = (fk == 2 && (flAt T j == 2 && SetM.has (cfAt T k) j))) := Lib.hid (FR.out j)
      have NEXT : Hid (flashR T k j = false → ∀ i, i < q + 1 → flashR T k (L.getD i 0) = false) := Lib.hid (fun e i hi => by
        by_cases h1 : i = q
        · subst h1; rw [HZ.out]; exact e
        · exact HA.out i (by omega))
      have STOP : Hid (flashR T k j = true → false = x) := Lib.hid (fun e => by
        rw [HX.out, List.any_eq_true.2 ⟨_, HM.out, e⟩]; rfl)
      generalize flAt T j = fq at *
      obtain ⟨hs, hhs⟩ : ∃ z, SetM.has (cfAt T k) j = z := ⟨_, rfl⟩
      rw [hhs] at FQ
      have HHS := Lib.hid hhs
      clear hhs FR
      by_cases h2 : fk = 2
      · by_cases h3 : fq = 2
        · subst h2 h3
          have FV : Hid (flashR T k j = hs) := Lib.hid (by rw [FQ.out]; rfl)
          go_wp2_with fail
          refine (rhas_any _ _ _).mono ?_
          rintro e w' ⟨rfl, rfl⟩
          rw [HHS.out]
          cases hs with
          | true =>
            have SX := Lib.hid (STOP.out FV.out)
            go_wp2
            go_ret
            exact ⟨ret_bool SX.out, B0.out⟩
          | false =>
            have NX := Lib.hid (NEXT.out FV.out)
            go_wp2
            go_roundw
            case rel => exact ⟨q + 1, by omega, by go_num, NX.out, trivial⟩
            case measure => simp [intOf]; omega
        · have NX := Lib.hid (NEXT.out (by rw [FQ.out, beq_eq_false_iff_ne.2 h3]; simp))
          subst h2
          have H3 := Lib.hid h3
          go_wp2
          go_roundw
          case rel => exact ⟨q + 1, by omega, by go_num, NX.out, trivial⟩
          case measure => simp [intOf]; omega
      · have NX := Lib.hid (NEXT.out (by rw [FQ.out, beq_eq_false_iff_ne.2 h2]; simp))
        go_wp2
        go_roundw
        case rel => exact ⟨q + 1, by omega, by go_num, NX.out, trivial⟩
        case measure => simp [intOf]; omega
    · have SX : Hid (true = x) := Lib.hid (by
        rw [HX.out, List.any_eq_false.2]
        · rfl
        · intro z hz
          obtain ⟨i, hi, rfl⟩ := List.getElem_of_mem hz
          have := HA.out i (by omega)
          rw [List.getD_eq_getElem?_getD, List.getElem?_eq_getElem hi] at this
          simpa using this)
      go_wp2
      go_ret
      exact ⟨ret_bool SX.out, B0.out⟩
set_option maxRecDepth 100000 in
set_option maxHeartbeats 8000000 in
theorem conflict_any (T : Tab) (h : Hd) (k : Nat) (hk : k < 8) (w : World) (ht : IsTab w h T) (sm : Few T) :
    Calls Tryz.prog 51 #[.agg (T.cells h).toArray, .int .i64 k, .int .i64 (onS T : Nat)] w fun e w' => e = .returned (.bool (confOk T k)) ∧ Below w.heap.size w w' := by
  have hsz := (cells_ok ht).size
  have IA : Hid ((Tryz.prog.info? 32).map (·.size) = some (T.cells h).length) := Lib.hid (by rw [List.size_toArray] at hsz; rw [hsz]; exact infoT)
  have BS : Hid (∀ (q : Int) W, Below w.heap.size w W → Calls Tryz.prog 42 #[.agg (T.cells h).toArray, .int .i64 k, .int .i64 q] W fun e w' => e = .returned (.bool (beside T k q)) ∧ Below W.heap.size W w') := Lib.hid (fun q W hb => Where.beside_any T h k q W (ht.below hb) sm)
  have BX0 := Lib.hid (bxd_new ht)
  have LT0 := Lib.hid (Row.lies_new w (T.cells h).toArray 32)
  have A0 : Hid (Below w.heap.size w (w.alloc (.cells (T.cells h).toArray 32))) := Lib.hid ((Below.refl _ _).alloc (Nat.le_refl _) _)
  obtain ⟨x, hx⟩ : ∃ x, x = confOk T k := ⟨_, rfl⟩
  rw [← hx]
  have HX : Hid (x = !(ons T).any (confR T k)) := Lib.hid hx
  have FR : Hid (∀ q, confR T k q = ((SetM.has (cfAt T k) q && q == k) || ((SetM.has (cfAt T k) q != SetM.has (cfAt T q) k) || (SetM.has (cfAt T k) q && beside T k q)))) := Lib.hid (fun q => rfl)
  have BD := Lib.hid (fun q (hq : q ∈ ons T) => SetM.list_bd _ q hq)
  have HL := Lib.hid (show (ons T).length ≤ 8 from SetM.list_len _)
  have OL : Hid (SetM.list (onS T : Nat) = ons T) := Lib.hid rfl
  generalize ons T = L at *
  clear ht hx
  generalize T.cells h = c at *
  have hki : ((k : Nat) : Int) < 8 := by omega
  go_enter Tryz.func51, Tryz.ntmps51
  go_upto_region 1 with fail
  generalize w.alloc (.cells c.toArray 32) = u at A0 BX0 LT0 ⊢
  clear hsz
  go_wp2_with fail
  refine (rlist_any _ _).mono ?_
  rintro e u1 ⟨v, rfl, hown, hb⟩
  rw [OL.out] at hown
  obtain ⟨a, cap, rfl, hrow⟩ := row_of hown
  have HROW := Lib.hid hrow
  have B0 : Hid (Below w.heap.size w u1) := Lib.hid (A0.out.trans (hb.mono A0.out.size))
  have BX1 := Lib.hid (BX0.out.below hb)
  have LT1 := Lib.hid (LT0.out.below hb)
  clear hown hrow hb A0 BX0 LT0
  have hl8 := HL.out
  go_wp2_with fail
  go_loopw [13] (fun i wr => ∃ q : Nat, q ≤ L.length ∧ i = .int .i64 q ∧ (∀ j, j < q → confR T k (L.getD j 0) = false) ∧ Below u1.heap.size u1 wr) (fun i _ => L.length - (intOf i).toNat)
  case atStart => exact ⟨0, by omega, rfl, (fun j h => by omega), Below.refl _ _⟩
  case round =>
    obtain ⟨q, hq, rfl, hall, hB⟩ := hrel
    have HA := Lib.hid hall
    have HB := Lib.hid hB
    have BW : Hid (Below w.heap.size w wr) := Lib.hid (B0.out.trans (hB.mono B0.out.size))
    have BX := Lib.hid (BX1.out.below hB)
    have LT := Lib.hid (LT1.out.below hB)
    have HROW := Lib.hid (HROW.out.below hB)
    clear hall hB
    by_cases hlt : q < L.length
    · obtain ⟨y, rfl, hcells⟩ := HROW.out.cells hlt
      have cq := hcells q hlt
      have hmem : L.getD q 0 ∈ L := by rw [List.getD_eq_getElem?_getD, List.getElem?_eq_getElem hlt]; exact List.getElem_mem hlt
      have hbd := BD.out _ hmem
      generalize hz : L.getD q 0 = z at *
      have HZ := Lib.hid hz
      have HM := Lib.hid hmem
      clear hcells hz hmem
      obtain ⟨j, rfl⟩ := Int.eq_ofNat_of_zero_le hbd.1
      have hj8 : ((j : Nat) : Int) < 8 := hbd.2
      have cj := BX.out.cf j (by omega) (by omega)
      have ck := BX.out.cf k (by omega) (by omega)
      rw [Int.toNat_natCast] at cj ck
      have FQ := Lib.hid (FR.out j)
      have NEXT : Hid (confR T k j = false → ∀ i, i < q + 1 → confR T k (L.getD i 0) = false) := Lib.hid (fun e i hi => by
        by_cases h1 : i = q
        · subst h1; rw [HZ.out]; exact e
        · exact HA.out i (by omega))
      have STOP : Hid (confR T k j = true → false = x) := Lib.hid (fun e => by
        rw [HX.out, List.any_eq_true.2 ⟨_, HM.out, e⟩]; rfl)
      obtain ⟨ha, hha⟩ : ∃ z, SetM.has (cfAt T k) j = z := ⟨_, rfl⟩
      obtain ⟨hb, hhb⟩ : ∃ z, SetM.has (cfAt T j) k = z := ⟨_, rfl⟩
      obtain ⟨bs, hbs⟩ : ∃ z, beside T k j = z := ⟨_, rfl⟩
      rw [hha, hhb, hbs] at FQ
      have BSJ := Lib.hid (BS.out j)
      rw [hbs] at BSJ
      have HHA := Lib.hid hha
      have HHB := Lib.hid hhb
      clear hha hhb hbs FR BS BD
      go_wp2_with fail
      refine (rhas_any _ _ _).mono ?_
      rintro e w' ⟨rfl, rfl⟩
      rw [HHA.out]
      cases ha with
      | false =>
        go_wp2_with fail
        refine (rhas_any _ _ _).mono ?_
        rintro e w' ⟨rfl, rfl⟩
        rw [HHB.out]
        cases hb with
        | true =>
          have SX := Lib.hid (STOP.out (by rw [FQ.out]; simp))
          go_wp2
          go_ret
          exact ⟨ret_bool SX.out, BW.out⟩
        | false =>
          have NX := Lib.hid (NEXT.out (by rw [FQ.out]; simp))
          go_wp2
          go_roundw
          case rel => exact ⟨q + 1, by omega, by go_num, NX.out, HB.out⟩
          case measure => simp [intOf]; omega
      | true =>
        by_cases hjk : ((j : Nat) : Int) = (k : Int)
        · have SX := Lib.hid (STOP.out (by rw [FQ.out, hjk]; simp))
          have hjb : (((j : Nat) : Int) == (k : Int)) = true := by rw [beq_iff_eq]; exact hjk
          clear hjk
          go_wp2
          go_ret
          exact ⟨ret_bool SX.out, BW.out⟩
        · have HJ := Lib.hid hjk
          have hjb : (((j : Nat) : Int) == (k : Int)) = false := by rw [beq_eq_false_iff_ne]; exact hjk
          have HJB := Lib.hid hjb
          clear hjb
          go_wp2_with fail
          refine (rhas_any _ _ _).mono ?_
          rintro e w' ⟨rfl, rfl⟩
          rw [HHB.out]
          cases hb with
          | false =>
            have SX := Lib.hid (STOP.out (by rw [FQ.out]; simp))
            go_wp2
            go_ret
            exact ⟨ret_bool SX.out, BW.out⟩
          | true =>
            go_wp2_with (refine Row.wpList_load_g 32 _ rfl (by first | rfl | go_simp) ⟨w.heap.size, 0, none⟩ rfl c _ LT.out Tryz.underlying32 rfl IA.out ?_)
            (try go_wp2_with fail)
            refine (BSJ.out _ BW.out).mono ?_
            rintro e u3 ⟨rfl, hb3⟩
            have HB3 := Lib.hid (HB.out.trans (hb3.mono HB.out.size))
            have BW3 : Hid (Below w.heap.size w u3) := Lib.hid (BW.out.trans (hb3.mono BW.out.size))
            clear hb3
            have FV : Hid (confR T k j = bs) := Lib.hid (by rw [FQ.out, HJB.out]; simp)
            cases bs with
            | true =>
              have SX := Lib.hid (STOP.out FV.out)
              go_wp2
              go_ret
              exact ⟨ret_bool SX.out, BW3.out⟩
            | false =>
              have NX := Lib.hid (NEXT.out FV.out)
              go_wp2
              go_roundw
              case rel => exact ⟨q + 1, by omega, by go_num, NX.out, HB3.out⟩
              case measure => simp [intOf]; omega
    · have SX : Hid (true = x) := Lib.hid (by
        rw [HX.out, List.any_eq_false.2]
        · rfl
        · intro z hz
          obtain ⟨i, hi, rfl⟩ := List.getElem_of_mem hz
          have := HA.out i (by omega)
          rw [List.getD_eq_getElem?_getD, List.getElem?_eq_getElem hi] at this
          simpa using this)
      go_wp2
      go_ret
      exact ⟨ret_bool SX.out, BW.out⟩
end Go.Proofs.YtjolhoilcibdfaaGreat.RkA
/- The contract of the document's own rings. -/
namespace Go.Proofs.YtjolhoilcibdfaaGreat.RkR
open Go.ChangeShapes Go.WideShapes Go.ChangeAt Go.RowKit
open Tab PlaceM PlanM OnS ChkM ChkH
open ChkB (laid2)
open Same (below_setRow)
open Where (infoS)
open RefS (rhas_any rwith_any)
open May (ret_bool infoT)
set_option linter.unusedVariables false
set_option linter.unusedSimpArgs false
theorem fold_cons (on : Int) (g : Nat) (S : List Spt) (j : Nat) (x : Spt) (h : S[j]? = some x) (st : Nat × Nat) : foldR on g (S.drop j) st = foldR on g (x :: S.drop (j + 1)) st := by
  obtain ⟨h1, h2⟩ := List.getElem?_eq_some_iff.1 h
  rw [List.drop_eq_getElem_cons h1, h2]
theorem fold_other {on : Int} {g n s : Nat} {x : Spt} {l : List Spt} (h : ¬ x.g = g) : foldR on g (x :: l) (n, s) = foldR on g l (n, s) := by unfold foldR; rw [if_neg h]; cases l <;> rfl
theorem fold_bad {on : Int} {g n s : Nat} {x : Spt} {l : List Spt} (h : x.g = g) (hb : (!SetM.has on x.p || SetM.has (s : Nat) x.p) = true) : foldR on g (x :: l) (n, s) = none := by unfold foldR; rw [if_pos h, if_pos hb]
theorem fold_good {on : Int} {g n s : Nat} {x : Spt} {l : List Spt} (h : x.g = g) (hb : (!SetM.has on x.p || SetM.has (s : Nat) x.p) = false) : foldR on g (x :: l) (n, s) = foldR on g l (n + 1, SetM.withN (s : Nat) x.p) := by
  rw [foldR, if_pos h, if_neg (by rw [hb]; simp)]
theorem loop_none {T : Tab} {m g seen : Nat} (h : foldR (onS T : Nat) g (spots T) (0, seen) = none) : loopR T (m + 1) g seen = some (g : Int) := by rw [loopR, h]
theorem loop_zero {T : Tab} {m g seen s : Nat} (h : foldR (onS T : Nat) g (spots T) (0, seen) = some (0, s)) : loopR T (m + 1) g seen = some (g : Int) := by rw [loopR, h]; rfl
theorem loop_next {T : Tab} {m g seen n s : Nat} (h : foldR (onS T : Nat) g (spots T) (0, seen) = some (n, s)) (hn : ¬ n = 0) : loopR T (m + 1) g seen = loopR T m (g + 1) s := by rw [loopR, h]; exact if_neg hn
set_option maxRecDepth 100000 in
set_option maxHeartbeats 8000000 in
theorem rrings_any (T : Tab) (h : Hd) (w : World) (ht : IsTab w h T) (sm : Few T) :
    Calls Tryz.prog 50 #[.agg (T.cells h).toArray] w fun e w' => e = .returned (.agg (fltC 8 (ringsR T))) ∧ Below w.heap.size w w' := by
  have hsz := (cells_ok ht).size
  have C := Lib.hid (cells_ok ht)
  have IA : Hid ((Tryz.prog.info? 32).map (·.size) = some (T.cells h).length) := Lib.hid (by rw [List.size_toArray] at hsz; rw [hsz]; exact infoT)
  have ON : Hid (∀ W, Below w.heap.size w W → Calls Tryz.prog 22 #[.agg (T.cells h).toArray] W fun e w' => e = .returned (.int .i64 (onS T : Nat)) ∧ Below W.heap.size W w') := Lib.hid (fun W hb => OnS.on_any T h W (ht.below hb))
  have SPC : Hid (∀ W, Below w.heap.size w W → Calls Tryz.prog 18 #[.agg (T.cells h).toArray] W fun e w' => ∃ s : Sl, e = .returned (s.val (spots T).length) ∧ RowOf 4 Spt.cells w' s (spots T) ∧ Below W.heap.size W w') := Lib.hid (fun W hb => Spots.spots_any T h W (ht.below hb) sm)
  have A0 : Hid (Below w.heap.size w ((w.alloc (.cells (T.cells h).toArray 32)).alloc (.cells #[.int .i64 0, .int .i64 0] 37))) := Lib.hid (((Below.refl _ _).alloc (Nat.le_refl _) _).alloc (by simp) _)
  have A1 : Hid (Lies ((w.alloc (.cells (T.cells h).toArray 32)).alloc (.cells #[.int .i64 0, .int .i64 0] 37)) ⟨w.heap.size, 0, none⟩ (T.cells h)) := Lib.hid ((Row.lies_new w _ _).below ((Below.refl _ _).alloc (Nat.le_refl _) _))
  have A2 : Hid (((w.alloc (.cells (T.cells h).toArray 32)).alloc (.cells #[.int .i64 0, .int .i64 0] 37)).heap[w.heap.size + 1]? = some (.cells #[.int .i64 0, .int .i64 0] 37 (0, 0))) := Lib.hid (heap_alloc2_new w _ _)
  have q104 : ((w.alloc (.cells (T.cells h).toArray 32)).alloc (.cells #[.int .i64 0, .int .i64 0] 37)).cell? ⟨w.heap.size, 104, none⟩ = some (.slice h.g.a T.groups.length h.g.cap) := A1.out 104 _ ((Array.getElem?_toList ..).trans C.out.g)
  have Kg : T.groups.length ≤ maxLen := by
    obtain ⟨gs, hgd, hgr⟩ := ht.groups
    have := hgr.1.len
    rw [← hgd, List.length_map]; omega
  unfold maxLen at Kg
  obtain ⟨o, ho⟩ : ∃ o, o = ringsR T := ⟨_, rfl⟩
  rw [← ho]
  have RC : Hid (o = if T.groups.length = 0 then some 0 else loopR T T.groups.length 0 0) := Lib.hid ho
  have OL : Hid (onS T < 256) := Lib.hid (SetM.of_lt _)
  have F1 : Hid (∀ {m g seen : Nat}, foldR (onS T : Nat) g (spots T) (0, seen) = none → loopR T (m + 1) g seen = some (g : Int)) := Lib.hid loop_none
  have F2 : Hid (∀ {m g seen s : Nat}, foldR (onS T : Nat) g (spots T) (0, seen) = some (0, s) → loopR T (m + 1) g seen = some (g : Int)) := Lib.hid loop_zero
  have F3 : Hid (∀ {m g seen n s : Nat}, foldR (onS T : Nat) g (spots T) (0, seen) = some (n, s) → ¬ n = 0 → loopR T (m + 1) g seen = loopR T m (g + 1) s) := Lib.hid loop_next
  have F4 : Hid (∀ g seen, loopR T 0 g seen = if seen = onS T then none else some 0) := Lib.hid (fun _ _ => rfl)
  clear ho ht C sm
  generalize T.groups.length = n at *
  generalize h.g.cap = gcap at *
  generalize h.g.a = ga at *
  generalize T.cells h = c at *
  generalize loopR T = lr at *
  generalize spots T = S at *
  generalize onS T = on at *
  go_enter Tryz.func50, Tryz.ntmps50
  go_upto_region 1 with fail
  generalize ((w.alloc (.cells c.toArray 32)).alloc (.cells #[.int .i64 0, .int .i64 0] 37)) = u at A0 A1 A2 q104 ⊢
  have Q104 := Lib.hid q104
  clear hsz
  by_cases hz : n = 0
  · subst hz
    have RO : Hid (o = some 0) := Lib.hid (by rw [RC.out]; rfl)
    clear RC
    have HW := Lib.hid (below_setRow A0.out (g := w.heap.size + 1) (by omega) #[I 8, I 0])
    have HK := Lib.hid (setRow_heap u (w.heap.size + 1) _ #[I 8, I 0] _ _ A2.out)
    go_wp2_with (first | (refine wpList_store_row rfl 37 _ _ rfl (w.heap.size + 1) #[I 8, I 0] rfl rfl 37 _ A2.out infoF rfl (by simp [Value.oneCell']) ?_))
    generalize u.setRow (w.heap.size + 1) #[I 8, I 0] = uz at HW HK ⊢
    (try go_wp2_with fail)
    (try simp only [Exit.inBlock, Exit.then])
    refine bodyPost_ret (v := .agg #[I 8, I 0]) ?_ rfl ⟨by rw [RO.out]; rfl, HW.out⟩
    exact results_cell_row rfl _ _ (w.heap.size + 1) 37 _ (0, 0) _ rfl HK.out Tryz.underlying37 rfl infoF
  · have hzi : ((n : Int) == 0) = false := by rw [beq_eq_false_iff_ne]; omega
    have hzj : ¬ ((n : Int) = 0) := by omega
    have RC2 : Hid (o = lr n 0 0) := Lib.hid (by rw [RC.out, if_neg hz])
    clear hz RC
    go_wp2_with (refine Row.wpList_load_g 32 _ rfl (by first | rfl | go_simp) ⟨w.heap.size, 0, none⟩ rfl c _ A1.out Tryz.underlying32 rfl IA.out ?_)
    (try go_wp2_with fail)
    refine (ON.out _ A0.out).mono ?_
    rintro e u1 ⟨rfl, hb⟩
    have B0 : Hid (Below w.heap.size w u1) := Lib.hid (A0.out.trans (hb.mono A0.out.size))
    have B1 := Lib.hid (A1.out.below hb)
    have B2 : Hid (u1.heap[w.heap.size + 1]? = some (.cells #[.int .i64 0, .int .i64 0] 37 (0, 0))) := Lib.hid ((hb.block _ (Array.getElem?_eq_some_iff.1 A2.out).1).trans A2.out)
    have BQ := Lib.hid ((hb.cell (World.block_lt_of_cell? u _ Q104.out)).trans Q104.out)
    clear hb hzi hzj q104 A0 A1 A2 Q104
    go_wp2_with fail
    go_loopw [4, 5] (fun s a wr => ∃ q seen : Nat, q ≤ n ∧ seen < 256 ∧ s = .int .i64 (seen : Nat) ∧ a = .int .i64 q ∧ o = lr (n - q) q seen ∧ Below u1.heap.size u1 wr) (fun _ a _ => n - (intOf a).toNat)
    case atStart => exact ⟨0, 0, by omega, by decide, rfl, rfl, RC2.out, Below.refl _ _⟩
    case round =>
      obtain ⟨q, seen, hq, hseen, rfl, rfl, ho, hB⟩ := hrel
      have HO := Lib.hid ho
      have HSE := Lib.hid hseen
      have C0 : Hid (Below w.heap.size w wr) := Lib.hid (B0.out.trans (hB.mono B0.out.size))
      have C1 := Lib.hid (B1.out.below hB)
      have C2 : Hid (wr.heap[w.heap.size + 1]? = some (.cells #[.int .i64 0, .int .i64 0] 37 (0, 0))) := Lib.hid ((hB.block _ (Array.getElem?_eq_some_iff.1 B2.out).1).trans B2.out)
      have q104 := (hB.cell (World.block_lt_of_cell? u1 _ BQ.out)).trans BQ.out
      have C3 := Lib.hid hB
      clear ho hB hseen RC2
      by_cases hlt : q < n
      · obtain ⟨m, hm⟩ : ∃ m, n - q = m + 1 := ⟨n - q - 1, by omega⟩
        have HM : Hid (n - (q + 1) = m) := Lib.hid (by omega)
        have HO2 : Hid (o = lr (m + 1) q seen) := Lib.hid (by rw [← hm]; exact HO.out)
        clear hm HO
        go_wp2_with (refine Row.wpList_load_g 32 _ rfl (by first | rfl | go_simp) ⟨w.heap.size, 0, none⟩ rfl c _ C1.out Tryz.underlying32 rfl IA.out ?_)
        (try go_wp2_with fail)
        refine (SPC.out _ C0.out).mono ?_
        rintro e u2 ⟨⟨sa, scap⟩, rfl, hrow, hb⟩
        rw [show (Sl.val ⟨sa, scap⟩ S.length) = .slice sa S.length scap from rfl]
        have D0 : Hid (Below w.heap.size w u2) := Lib.hid (C0.out.trans (hb.mono C0.out.size))
        have D2 : Hid (u2.heap[w.heap.size + 1]? = some (.cells #[.int .i64 0, .int .i64 0] 37 (0, 0))) := Lib.hid ((hb.block _ (Array.getElem?_eq_some_iff.1 C2.out).1).trans C2.out)
        have D3 := Lib.hid (C3.out.trans (hb.mono C3.out.size))
        have HR := Lib.hid hrow
        have K := hrow.len
        unfold maxLen at K
        clear hrow hb q104 C0 C1 C2 C3
        go_wp2_with fail
        go_loopw [4, 6, 26] (fun s a i wk => ∃ j k sn : Nat, j ≤ S.length ∧ k ≤ j ∧ sn < 256 ∧ s = .int .i64 (sn : Nat) ∧ a = .int .i64 (k : Nat) ∧ i = .int .i64 j ∧ foldR on q S (0, seen) = foldR on q (S.drop j) (k, sn) ∧ Below u2.heap.size u2 wk) (fun _ _ i _ => S.length - (intOf i).toNat)
        case atStart => exact ⟨0, 0, seen, by omega, by omega, HSE.out, rfl, rfl, rfl, rfl, Below.refl _ _⟩
        case round =>
          obtain ⟨j, k, sn, hj, hkj, hsn, rfl, rfl, rfl, hf, hB2⟩ := hrel
          rename World => wk
          have HF := Lib.hid hf
          have HSN := Lib.hid hsn
          have HB2 := Lib.hid hB2
          have G0 : Hid (Below w.heap.size w wk) := Lib.hid (D0.out.trans (hB2.mono D0.out.size))
          have G2 : Hid (wk.heap[w.heap.size + 1]? = some (.cells #[.int .i64 0, .int .i64 0] 37 (0, 0))) := Lib.hid ((hB2.block _ (Array.getElem?_eq_some_iff.1 D2.out).1).trans D2.out)
          clear hf hB2 hsn
          by_cases hjl : j < S.length
          · have hv := List.getElem?_eq_getElem hjl
            generalize S[j] = x at hv
            obtain ⟨y, hy, hc⟩ := (HR.out.below HB2.out).at hv
            obtain rfl : sa = some y := hy
            have FC := Lib.hid (HF.out.trans (fold_cons on q S j x hv (k, sn)))
            have HC := Lib.hid hc
            clear hv hc HF
            obtain ⟨xg, xk, xi, xp⟩ := x
            have hwk := HB2.out.size
            go_upto_region 12 with (first | (refine Row.wpList_load_g 55 _ rfl (by first | rfl | go_simp) (y.add (j * 4)) rfl (Spt.cells ⟨xg, xk, xi, xp⟩) _ HC.out Tryz.underlying55 rfl infoS ?_) | (refine Row.wpList_store_new rfl 55 _ _ rfl wk _ (Spt.cells ⟨xg, xk, xi, xp⟩).toArray rfl rfl rfl infoS rfl (Spt.one _) ?_))
            have hbn : Below u2.heap.size u2 (wk.alloc (.cells (Spt.cells ⟨xg, xk, xi, xp⟩).toArray 55)) := HB2.out.alloc hwk _
            have hgn := heap_alloc_new wk (.cells (Spt.cells ⟨xg, xk, xi, xp⟩).toArray 55)
            have d0 : (wk.alloc (.cells (Spt.cells ⟨xg, xk, xi, xp⟩).toArray 55)).cell? ⟨wk.heap.size, 0, none⟩ = some (I xg) := by rw [cell_of_row _ _ _ _ _ _ hgn]; rfl
            have d3 : (wk.alloc (.cells (Spt.cells ⟨xg, xk, xi, xp⟩).toArray 55)).cell? ⟨wk.heap.size, 3, none⟩ = some (I xp) := by rw [cell_of_row _ _ _ _ _ _ hgn]; rfl
            have HN := Lib.hid hbn
            have G0' : Hid (Below w.heap.size w (wk.alloc (.cells (Spt.cells ⟨xg, xk, xi, xp⟩).toArray 55))) := Lib.hid (G0.out.alloc G0.out.size _)
            clear hbn hgn HC G0
            generalize hxc : (Spt.cells ⟨xg, xk, xi, xp⟩) = xc at *
            clear hxc
            generalize wk.alloc (.cells xc.toArray 55) = w4 at HN d0 d3 G0' ⊢
            generalize wk.heap.size = b4 at d0 d3 ⊢
            have D3X := Lib.hid d3
            by_cases hg : ((xg : Nat) : Int) = (q : Int)
            · have hgn : xg = q := by omega
              have FB := Lib.hid (fun e => FC.out.trans (fold_bad (on := on) (n := k) (s := sn) (l := S.drop (j + 1)) (x := ⟨xg, xk, xi, xp⟩) hgn e))
              have FG := Lib.hid (fun e => FC.out.trans (fold_good (on := on) (n := k) (s := sn) (l := S.drop (j + 1)) (x := ⟨xg, xk, xi, xp⟩) hgn e))
              have hgb : (((xg : Nat) : Int) != (q : Int)) = false := by rw [bne_eq_false_iff_eq]; exact hg
              have hgi := hg
              clear hg
              obtain ⟨va, hva⟩ : ∃ z, SetM.has (on : Nat) xp = z := ⟨_, rfl⟩
              obtain ⟨vb, hvb⟩ : ∃ z, SetM.has (sn : Nat) xp = z := ⟨_, rfl⟩
              have HVA := Lib.hid hva
              have HVB := Lib.hid hvb
              have FB := Lib.hid (fun (e : (!va || vb) = true) => FB.out (by rw [← e, ← hva, ← hvb]))
              have FG := Lib.hid (fun (e : (!va || vb) = false) => FG.out (by rw [← e, ← hva, ← hvb]))
              have WL := Lib.hid (SetM.with_lt (sn : Nat) xp)
              clear hva hvb hgi hgn
              have hk62 : ((k : Nat) : Int) < 9223372036854775807 := by omega
              go_wp2_with fail
              refine (rhas_any _ _ _).mono ?_
              rintro e w' ⟨rfl, rfl⟩
              rw [HVA.out]
              cases va with
              | false =>
                have RO : Hid (o = some (q : Int)) := Lib.hid (by rw [HO2.out]; exact F1.out (FB.out rfl))
                have G2' : Hid (w4.heap[w.heap.size + 1]? = some (.cells #[.int .i64 0, .int .i64 0] 37 (0, 0))) := Lib.hid ((HN.out.block _ (Array.getElem?_eq_some_iff.1 D2.out).1).trans D2.out)
                clear d0 d3 hgb
                have HW := Lib.hid (below_setRow G0'.out (g := w.heap.size + 1) (by omega) #[I 8, I q])
                have HK := Lib.hid (setRow_heap w4 (w.heap.size + 1) _ #[I 8, I q] _ _ G2'.out)
                go_wp2_with (first | (refine wpList_store_row rfl 37 _ _ rfl (w.heap.size + 1) #[I 8, I q] rfl rfl 37 _ G2'.out infoF rfl (by simp [Value.oneCell']) ?_))
                generalize w4.setRow (w.heap.size + 1) #[I 8, I q] = uz at HW HK ⊢
                (try go_wp2_with fail)
                (try simp only [Exit.inBlock, Exit.then])
                refine bodyPost_ret (v := .agg #[I 8, I q]) ?_ rfl ⟨by rw [RO.out]; rfl, HW.out⟩
                exact results_cell_row rfl _ _ (w.heap.size + 1) 37 _ (0, 0) _ rfl HK.out Tryz.underlying37 rfl infoF
              | true =>
                have d3 := D3X.out
                go_wp2_with fail
                refine (rhas_any _ _ _).mono ?_
                rintro e w' ⟨rfl, rfl⟩
                rw [HVB.out]
                cases vb with
                | true =>
                  have RO : Hid (o = some (q : Int)) := Lib.hid (by rw [HO2.out]; exact F1.out (FB.out rfl))
                  have G2' : Hid (w4.heap[w.heap.size + 1]? = some (.cells #[.int .i64 0, .int .i64 0] 37 (0, 0))) := Lib.hid ((HN.out.block _ (Array.getElem?_eq_some_iff.1 D2.out).1).trans D2.out)
                  clear d0 d3 hgb
                  have HW := Lib.hid (below_setRow G0'.out (g := w.heap.size + 1) (by omega) #[I 8, I q])
                  have HK := Lib.hid (setRow_heap w4 (w.heap.size + 1) _ #[I 8, I q] _ _ G2'.out)
                  go_wp2_with (first | (refine wpList_store_row rfl 37 _ _ rfl (w.heap.size + 1) #[I 8, I q] rfl rfl 37 _ G2'.out infoF rfl (by simp [Value.oneCell']) ?_))
                  generalize w4.setRow (w.heap.size + 1) #[I 8, I q] = uz at HW HK ⊢
                  (try go_wp2_with fail)
                  (try simp only [Exit.inBlock, Exit.then])
                  refine bodyPost_ret (v := .agg #[I 8, I q]) ?_ rfl ⟨by rw [RO.out]; rfl, HW.out⟩
                  exact results_cell_row rfl _ _ (w.heap.size + 1) 37 _ (0, 0) _ rfl HK.out Tryz.underlying37 rfl infoF
                | false =>
                  have NX := Lib.hid (FG.out rfl)
                  clear FB FG FC
                  go_wp2_with fail
                  refine (rwith_any _ _ _).mono ?_
                  rintro e w5 ⟨rfl, hb⟩
                  have HN5 := Lib.hid (HN.out.trans (hb.mono HN.out.size))
                  clear hb d0 d3
                  go_wp2
                  go_roundw
                  case rel => exact ⟨j + 1, k + 1, _, by omega, by omega, WL.out, rfl, by go_num, by go_num, NX.out, HN5.out⟩
                  case measure => simp [intOf]; omega
            · have hgn : ¬ xg = q := by omega
              have NX := Lib.hid (FC.out.trans (fold_other (on := on) (n := k) (s := sn) (l := S.drop (j + 1)) (x := ⟨xg, xk, xi, xp⟩) hgn))
              have hgb : (((xg : Nat) : Int) != (q : Int)) = true := by rw [bne_iff_ne]; exact hg
              have hgi : ¬ ((xg : Nat) : Int) = (q : Int) := hg
              clear hg hgn FC
              go_wp2
              go_roundw
              case rel => exact ⟨j + 1, k, sn, by omega, by omega, HSN.out, rfl, rfl, by go_num, NX.out, HN.out⟩
              case measure => simp [intOf]; omega
          · have FE : Hid (foldR on q S (0, seen) = some (k, sn)) := Lib.hid (by rw [HF.out, List.drop_of_length_le (by omega)]; rfl)
            by_cases hk : k = 0
            · subst hk
              have RO : Hid (o = some (q : Int)) := Lib.hid (by rw [HO2.out]; exact F2.out FE.out)
              have HW := Lib.hid (below_setRow G0.out (g := w.heap.size + 1) (by omega) #[I 8, I q])
              have HK := Lib.hid (setRow_heap wk (w.heap.size + 1) _ #[I 8, I q] _ _ G2.out)
              go_wp2_with (first | (refine wpList_store_row rfl 37 _ _ rfl (w.heap.size + 1) #[I 8, I q] rfl rfl 37 _ G2.out infoF rfl (by simp [Value.oneCell']) ?_))
              generalize wk.setRow (w.heap.size + 1) #[I 8, I q] = uz at HW HK ⊢
              (try go_wp2_with fail)
              (try simp only [Exit.inBlock, Exit.then])
              refine bodyPost_ret (v := .agg #[I 8, I q]) ?_ rfl ⟨by rw [RO.out]; rfl, HW.out⟩
              exact results_cell_row rfl _ _ (w.heap.size + 1) 37 _ (0, 0) _ rfl HK.out Tryz.underlying37 rfl infoF
            · have hki : ((k : Nat) : Int) ≠ 0 := by omega
              have hkb : (((k : Nat) : Int) == 0) = false := by rw [beq_eq_false_iff_ne]; exact hki
              have NX : Hid (o = lr (n - (q + 1)) (q + 1) sn) := Lib.hid (by rw [HO2.out, HM.out]; exact F3.out FE.out hk)
              have E3 := Lib.hid (D3.out.trans (HB2.out.mono D3.out.size))
              clear hk
              go_wp2
              go_roundw
              case rel => exact ⟨q + 1, sn, by omega, HSN.out, rfl, by go_num, NX.out, E3.out⟩
              case measure => simp [intOf]; omega
      · have hqn : q = n := by omega
        have RL : Hid (o = if seen = on then none else some 0) := Lib.hid (by rw [HO.out, hqn, Nat.sub_self]; exact F4.out _ _)
        by_cases he : ((seen : Nat) : Int) = (on : Int)
        · have heb : (((seen : Nat) : Int) != (on : Int)) = false := by rw [bne_eq_false_iff_eq]; exact he
          have RO : Hid (o = none) := Lib.hid (by rw [RL.out, if_pos (by omega)])
          clear he
          have HW := Lib.hid (below_setRow C0.out (g := w.heap.size + 1) (by omega) #[I 0, I 0])
          have HK := Lib.hid (setRow_heap wr (w.heap.size + 1) _ #[I 0, I 0] _ _ C2.out)
          go_wp2_with (first | (refine wpList_store_row rfl 37 _ _ rfl (w.heap.size + 1) #[I 0, I 0] rfl rfl 37 _ C2.out infoF rfl (by simp [Value.oneCell']) ?_))
          generalize wr.setRow (w.heap.size + 1) #[I 0, I 0] = uz at HW HK ⊢
          (try go_wp2_with fail)
          (try simp only [Exit.inBlock, Exit.then])
          refine bodyPost_ret (v := .agg #[I 0, I 0]) ?_ rfl ⟨by rw [RO.out]; rfl, HW.out⟩
          exact results_cell_row rfl _ _ (w.heap.size + 1) 37 _ (0, 0) _ rfl HK.out Tryz.underlying37 rfl infoF
        · have heb : (((seen : Nat) : Int) != (on : Int)) = true := by rw [bne_iff_ne]; exact he
          have RO : Hid (o = some 0) := Lib.hid (by rw [RL.out, if_neg (by omega)])
          clear he
          have HW := Lib.hid (below_setRow C0.out (g := w.heap.size + 1) (by omega) #[I 8, I 0])
          have HK := Lib.hid (setRow_heap wr (w.heap.size + 1) _ #[I 8, I 0] _ _ C2.out)
          go_wp2_with (first | (refine wpList_store_row rfl 37 _ _ rfl (w.heap.size + 1) #[I 8, I 0] rfl rfl 37 _ C2.out infoF rfl (by simp [Value.oneCell']) ?_))
          generalize wr.setRow (w.heap.size + 1) #[I 8, I 0] = uz at HW HK ⊢
          (try go_wp2_with fail)
          (try simp only [Exit.inBlock, Exit.then])
          refine bodyPost_ret (v := .agg #[I 8, I 0]) ?_ rfl ⟨by rw [RO.out]; rfl, HW.out⟩
          exact results_cell_row rfl _ _ (w.heap.size + 1) 37 _ (0, 0) _ rfl HK.out Tryz.underlying37 rfl infoF
end Go.Proofs.YtjolhoilcibdfaaGreat.RkR
/- Rule 3 of package check and of the document are one; so are their Faults. No program in it. -/
namespace Go.Proofs.YtjolhoilcibdfaaGreat.ChkZ
open Go Tab PlaceM PlanM OnS May ChkM ChkX
open PlanW (where_some)
set_option linter.unusedVariables false
set_option linter.unusedSimpArgs false
/-- The places of a group, and their phases. -/
def inG (T : Tab) (g : Nat) : List Spt := (spots T).filter fun x => decide ((x.g : Int) = g)
def phG (T : Tab) (g : Nat) : List Int := (inG T g).map Spt.p
theorem memb_eq (T : Tab) (g : Nat) : SetM.of (phG T g) = membS T g := memb_spots T g
theorem mem_inG {T : Tab} {g : Nat} {x : Spt} : x ∈ inG T g ↔ x ∈ spots T ∧ x.g = g := by
  unfold inG
  rw [List.mem_filter, decide_eq_true_eq]
  constructor
  · rintro ⟨h1, h2⟩; exact ⟨h1, by omega⟩
  · rintro ⟨h1, h2⟩; exact ⟨h1, by omega⟩
theorem spot_range {T : Tab} {x : Spt} (h : x ∈ spots T) : 0 ≤ x.p ∧ x.p < 8 := by obtain ⟨_, _, _, h1, h2⟩ := mem_spots.1 h; exact ⟨h1, h2⟩
theorem ph_range {T : Tab} {g : Nat} {p : Int} (h : p ∈ phG T g) : 0 ≤ p ∧ p < 8 := by
  obtain ⟨x, hx, rfl⟩ := List.mem_map.1 h
  exact spot_range (mem_inG.1 hx).1
theorem has_memb {T : Tab} {g : Nat} {q : Int} : SetM.has (membS T g : Nat) q = true ↔ q ∈ phG T g := by
  rw [← memb_eq, has_of]
  constructor
  · rintro ⟨_, _, h⟩; exact h
  · intro h; have := ph_range h; exact ⟨this.1, this.2, h⟩
theorem has_or {m n : Nat} (hm : m < 256) (hn : n < 256) {q : Int} : SetM.has ((m ||| n : Nat) : Int) q = true ↔ SetM.has (m : Int) q = true ∨ SetM.has (n : Int) q = true := by
  have hmn : m ||| n < 256 := Nat.or_lt_two_pow (n := 8) hm hn
  rw [has_bits, has_bits, has_bits, SetM.low_nat _ hmn, SetM.low_nat _ hm, SetM.low_nat _ hn, Nat.testBit_or, Bool.or_eq_true]
  constructor
  · rintro ⟨h1, h2, h3 | h3⟩
    · exact .inl ⟨h1, h2, h3⟩
    · exact .inr ⟨h1, h2, h3⟩
  · rintro (⟨h1, h2, h3⟩ | ⟨h1, h2, h3⟩)
    · exact ⟨h1, h2, .inl h3⟩
    · exact ⟨h1, h2, .inr h3⟩
theorem has_placed {T : Tab} {q : Int} : ∀ g, SetM.has (placed T g : Nat) q = true ↔ ∃ y ∈ spots T, y.g < g ∧ y.p = q
  | 0 => by
    constructor
    · intro h; have := (has_bits.1 h).2.2; rw [show ((placed T 0 : Nat) : Int) = ((0 : Nat) : Int) from rfl, SetM.low_nat 0 (by decide), Nat.zero_testBit] at this; cases this
    · rintro ⟨y, _, h, _⟩; omega
  | g + 1 => by
    rw [show placed T (g + 1) = placed T g ||| membS T g from rfl, has_or (ChkH.placed_lt T g) (memb_lt T g), has_placed g, has_memb]
    constructor
    · rintro (⟨y, h1, h2, h3⟩ | h)
      · exact ⟨y, h1, by omega, h3⟩
      · obtain ⟨y, hy, rfl⟩ := List.mem_map.1 h
        obtain ⟨h1, h2⟩ := mem_inG.1 hy
        exact ⟨y, h1, by omega, rfl⟩
    · rintro ⟨y, h1, h2, h3⟩
      by_cases h4 : y.g < g
      · exact .inl ⟨y, h1, h4, h3⟩
      · exact .inr (List.mem_map.2 ⟨y, mem_inG.2 ⟨h1, by omega⟩, h3⟩)
/-! ### the document's walk through a group -/
def go (on : Int) : List Int → Nat × Nat → Option (Nat × Nat)
  | [], s => some s
  | p :: l, (n, s) => if !SetM.has on p || SetM.has (s : Nat) p then none else go on l (n + 1, SetM.withN (s : Nat) p)
theorem fold_go (on : Int) (g : Nat) : ∀ (l : List Spt) (n s : Nat), foldR on g l (n, s) = go on ((l.filter fun x => decide ((x.g : Int) = g)).map Spt.p) (n, s)
  | [], n, s => rfl
  | x :: l, n, s => by
    by_cases h : x.g = g
    · have hd : decide ((x.g : Int) = g) = true := by rw [decide_eq_true_eq]; omega
      rw [List.filter_cons, hd, if_pos rfl, List.map_cons, go]
      by_cases hb : (!SetM.has on x.p || SetM.has (s : Nat) x.p) = true
      · rw [RkR.fold_bad h hb, if_pos hb]
      · have hb' : (!SetM.has on x.p || SetM.has (s : Nat) x.p) = false := by simpa using hb
        rw [RkR.fold_good h hb', if_neg hb]
        exact fold_go on g l _ _
    · have hd : decide ((x.g : Int) = g) = false := by rw [decide_eq_false_iff_not]; omega
      rw [RkR.fold_other h, List.filter_cons, hd]
      exact fold_go on g l n s
theorem go_bad {on : Int} : ∀ {l : List Int} {n s : Nat}, go on l (n, s) = none → (∃ p ∈ l, SetM.has on p = false) ∨ (∃ p ∈ l, SetM.has (s : Nat) p = true) ∨ ¬ l.Nodup
  | [], n, s, h => by simp [go] at h
  | p :: l, n, s, h => by
    rw [go] at h
    split at h
    · rename_i hb
      rw [Bool.or_eq_true] at hb
      rcases hb with hb | hb
      · exact .inl ⟨p, List.mem_cons_self .., by simpa using hb⟩
      · exact .inr (.inl ⟨p, List.mem_cons_self .., hb⟩)
    · rcases go_bad h with ⟨q, h1, h2⟩ | ⟨q, h1, h2⟩ | h1
      · exact .inl ⟨q, List.mem_cons_of_mem _ h1, h2⟩
      · rw [SetM.has_with, Bool.or_eq_true] at h2
        rcases h2 with h2 | h2
        · exact .inr (.inl ⟨q, List.mem_cons_of_mem _ h1, h2⟩)
        · refine .inr (.inr fun hn => ?_)
          have : q = p := by rw [Bool.and_eq_true, beq_iff_eq] at h2; exact h2.2
          subst this
          exact (List.nodup_cons.1 hn).1 h1
      · exact .inr (.inr fun hn => h1 (List.nodup_cons.1 hn).2)
theorem go_good {on : Int} : ∀ {l : List Int} {n s n' s' : Nat}, s < 256 → (∀ p ∈ l, 0 ≤ p ∧ p < 8) → go on l (n, s) = some (n', s') →
    (∀ p ∈ l, SetM.has on p = true) ∧ (∀ p ∈ l, SetM.has (s : Nat) p = false) ∧ l.Nodup ∧ n' = n + l.length ∧ s' < 256 ∧ ∀ q, SetM.has (s' : Nat) q = true ↔ SetM.has (s : Nat) q = true ∨ q ∈ l
  | [], n, s, n', s', hs, _, h => by
    obtain ⟨rfl, rfl⟩ : n = n' ∧ s = s' := by simpa [go] using h
    exact ⟨by simp, by simp, List.nodup_nil, rfl, hs, by simp⟩
  | p :: l, n, s, n', s', hs, hr, h => by
    rw [go] at h
    split at h
    · cases h
    · rename_i hb
      have hb' : (!SetM.has on p || SetM.has (s : Nat) p) = false := by simpa using hb
      rw [Bool.or_eq_false_iff] at hb'
      have h1 : SetM.has on p = true := by simpa using hb'.1
      obtain ⟨a1, a2, a3, a4, a5, a6⟩ := go_good (SetM.with_lt _ _) (fun q hq => hr q (List.mem_cons_of_mem _ hq)) h
      have hp := hr p (List.mem_cons_self ..)
      have hw : ∀ q, SetM.has (SetM.withN (s : Nat) p : Nat) q = true ↔ SetM.has (s : Nat) q = true ∨ q = p := by
        intro q
        rw [SetM.has_with, Bool.or_eq_true, Bool.and_eq_true, beq_iff_eq]
        constructor
        · rintro (h | ⟨_, h⟩)
          · exact .inl h
          · exact .inr h
        · rintro (h | h)
          · exact .inl h
          · refine .inr ⟨?_, h⟩
            obtain ⟨k, rfl⟩ := Int.eq_ofNat_of_zero_le hp.1
            rw [SetM.bit_in k (by omega), bne_iff_ne]
            exact Nat.ne_of_gt (Nat.pow_pos (by decide))
      refine ⟨?_, ?_, ?_, ?_, a5, ?_⟩
      · intro q hq
        rcases List.mem_cons.1 hq with rfl | hq
        · exact h1
        · exact a1 q hq
      · intro q hq
        rcases List.mem_cons.1 hq with rfl | hq
        · exact hb'.2
        · cases e : SetM.has (s : Nat) q with
          | false => rfl
          | true => have := a2 q hq; rw [(hw q).2 (.inl e)] at this; cases this
      · refine List.nodup_cons.2 ⟨fun hm => ?_, a3⟩
        have := a2 p hm
        rw [(hw p).2 (.inr rfl)] at this
        cases this
      · rw [a4, List.length_cons]; omega
      · intro q
        rw [a6, hw, List.mem_cons]
        constructor
        · rintro ((h | h) | h)
          · exact .inl h
          · exact .inr (.inl h)
          · exact .inr (.inr h)
        · rintro (h | h | h)
          · exact .inl (.inl h)
          · exact .inl (.inr h)
          · exact .inr h
/-! ### first places -/
theorem Lt.asymm {x y : Spt} (h : Lt x y) (k : Lt y x) : False := by unfold Lt at h k; omega
theorem where_first {T : Tab} {x y : Spt} (hw : where_ T x.p = some x) (hy : y ∈ spots T) (hp : y.p = x.p) : ¬ Lt y x := by
  intro hl
  unfold where_ find at hw
  have hs := spots_sorted T
  rw [List.find?_eq_some_iff_append] at hw
  obtain ⟨_, l1, l2, e, h1⟩ := hw
  rw [e] at hy hs
  rcases List.mem_append.1 hy with hy | hy
  · have := h1 y hy
    rw [hp] at this
    simp at this
  · rcases List.mem_cons.1 hy with rfl | hy
    · exact Lt.irrefl hl
    · have := (List.pairwise_append.1 hs).2.1
      exact Lt.asymm hl ((List.pairwise_cons.1 this).1 y hy)
theorem at_some {T : Tab} {x : Spt} (hx : x ∈ spots T) : (at0 (where_ T x.p) = (x.g, x.k, x.i)) ↔ where_ T x.p = some x := by
  constructor
  · intro h
    cases hw : where_ T x.p with
    | none =>
      exfalso
      unfold where_ find at hw
      rw [List.find?_eq_none] at hw
      exact hw x hx (by simp)
    | some y =>
      rw [hw] at h
      unfold where_ find at hw
      have hp : y.p = x.p := by simpa using List.find?_some hw
      obtain ⟨yg, yk, yi, yp⟩ := y
      obtain ⟨xg, xk, xi, xp⟩ := x
      simp only [at0, Prod.mk.injEq] at h
      obtain ⟨h1, h2, h3⟩ := h
      subst h1 h2 h3
      simp only at hp
      rw [hp]
  · intro h; rw [h]; rfl
theorem rows_at {T : Tab} {g : Nat} (hg : g < T.groups.length) : rowsAt T g = T.groups[g] := rows_in (List.getElem?_eq_getElem hg)
/-- Each place of a row within its ranges is a spot. -/
theorem spot_of {T : Tab} (h : InR T) {g k i : Nat} (hg : g < T.groups.length) (hk : k < 2) (hi : i < (ringOf (rowsAt T g) k).length) : (⟨g, k, i, (ringOf (rowsAt T g) k).getD i 0⟩ : Spt) ∈ spots T := by
  have hm := h.gr _ (List.getElem_mem hg)
  unfold groupMay rowMay at hm
  simp only [Bool.and_eq_true, allIn_iff] at hm
  rw [mem_spots]
  refine ⟨T.groups[g], List.getElem?_eq_getElem hg, ?_⟩
  rw [rows_at hg] at hi ⊢
  simp only
  have he : (ringOf T.groups[g] k)[i]? = some ((ringOf T.groups[g] k).getD i 0) := by rw [List.getD_eq_getElem?_getD, List.getElem?_eq_getElem hi]; rfl
  refine ⟨he, ?_⟩
  have hmem : (ringOf T.groups[g] k).getD i 0 ∈ ringOf T.groups[g] k := List.mem_of_getElem? he
  have h01 : k = 0 ∨ k = 1 := by omega
  rcases h01 with rfl | rfl
  · have := hm.1.2 _ hmem; omega
  · have := hm.2.2 _ hmem; omega
theorem rep_iff {T : Tab} (h : InR T) {g : Nat} (hg : g < T.groups.length) : repeats T g = false ↔ ∀ x ∈ inG T g, where_ T x.p = some x := by
  unfold repeats
  rw [Bool.or_eq_false_iff, ChkG.rep_row, ChkG.rep_row]
  constructor
  · rintro ⟨h0, h1⟩ x hx
    obtain ⟨hs, hxg⟩ := mem_inG.1 hx
    rw [← at_some hs]
    obtain ⟨y, hy, hr, _⟩ := mem_spots.1 hs
    have hry : rowsAt T (x.g : Nat) = y := rows_in hy
    rw [hxg] at hry
    have hlt := (List.getElem?_eq_some_iff.1 hr).1
    have hk : x.k = 0 ∨ x.k = 1 := by
      unfold ringOf at hr
      by_cases e0 : x.k = 0
      · exact .inl e0
      · by_cases e1 : x.k = 1
        · exact .inr e1
        · rw [if_neg e0, if_neg e1] at hr; simp at hr
    have hv : (ringOf y x.k).getD x.i 0 = x.p := by rw [List.getD_eq_getElem?_getD, hr]; rfl
    rcases hk with e | e
    · rw [e] at hlt hv
      have := h0 x.i (by rw [hry]; exact hlt)
      unfold ChkG.atOk at this
      rw [beq_iff_eq, hry, show y.1.getD x.i 0 = x.p from hv] at this
      rw [this, hxg, e]
    · rw [e] at hlt hv
      have := h1 x.i (by rw [hry]; exact hlt)
      unfold ChkG.atOk at this
      rw [beq_iff_eq, hry, show y.2.getD x.i 0 = x.p from hv] at this
      rw [this, hxg, e]
  · intro hall
    constructor
    · intro i hi
      have hs := spot_of h hg (k := 0) (by omega) hi
      have := (at_some hs).2 (hall _ (mem_inG.2 ⟨hs, rfl⟩))
      unfold ChkG.atOk
      rw [beq_iff_eq]
      exact this
    · intro i hi
      have hs := spot_of h hg (k := 1) (by omega) hi
      have := (at_some hs).2 (hall _ (mem_inG.2 ⟨hs, rfl⟩))
      unfold ChkG.atOk
      rw [beq_iff_eq]
      exact this
theorem inj_of {A : List Spt} : (A.map Spt.p).Nodup → ∀ {x y : Spt}, x ∈ A → y ∈ A → x.p = y.p → x = y := by
  induction A with
  | nil => intro _ x y hx; cases hx
  | cons a A ih =>
    intro hn x y hx hy hp
    rw [List.map_cons, List.nodup_cons] at hn
    rcases List.mem_cons.1 hx with hx | hx
    · rcases List.mem_cons.1 hy with hy | hy
      · rw [hx, hy]
      · exact absurd (List.mem_map.2 ⟨y, hy, by rw [← hp, hx]⟩) hn.1
    · rcases List.mem_cons.1 hy with hy | hy
      · exact absurd (List.mem_map.2 ⟨x, hx, by rw [hp, hy]⟩) hn.1
      · exact ih hn.2 hx hy hp
theorem first_iff {T : Tab} (g : Nat) : (∀ x ∈ inG T g, where_ T x.p = some x) ↔ (phG T g).Nodup ∧ ∀ p ∈ phG T g, SetM.has (placed T g : Nat) p = false := by
  constructor
  · intro h
    constructor
    · unfold phG List.Nodup
      rw [List.pairwise_map]
      have hs : (inG T g).Pairwise Lt := (spots_sorted T).sublist List.filter_sublist
      refine List.Pairwise.imp_of_mem (fun {y x} hy hx hl e => ?_) hs
      exact where_first (h x hx) (mem_inG.1 hy).1 e hl
    · intro p hp
      obtain ⟨x, hx, rfl⟩ := List.mem_map.1 hp
      cases e : SetM.has (placed T g : Nat) x.p with
      | false => rfl
      | true =>
        exfalso
        obtain ⟨y, h1, h2, h3⟩ := (has_placed g).1 e
        exact where_first (h x hx) h1 h3 (.inl (by rw [(mem_inG.1 hx).2]; exact h2))
  · rintro ⟨hn, hp⟩ x hx
    obtain ⟨hs, hxg⟩ := mem_inG.1 hx
    refine where_some hs rfl (fun y hy hl e => ?_)
    rcases hl with hl | ⟨hl, hl2⟩
    · have := hp x.p (List.mem_map.2 ⟨x, hx, rfl⟩)
      rw [(has_placed g).2 ⟨y, hy, by omega, e⟩] at this
      cases this
    · have hyx := inj_of hn (mem_inG.2 ⟨hy, by omega⟩) hx e
      subst hyx
      omega
theorem of_zero {l : List Int} (hr : ∀ p ∈ l, 0 ≤ p ∧ p < 8) : SetM.of l = 0 ↔ l = [] := by
  constructor
  · intro h
    cases l with
    | nil => rfl
    | cons p l =>
      exfalso
      have hp := hr p (List.mem_cons_self ..)
      exact (low_ne (SetM.of_lt (p :: l))).2 ⟨p, has_of.2 ⟨hp.1, hp.2, List.mem_cons_self ..⟩⟩ h
  · rintro rfl; rfl
theorem group_iff {T : Tab} (h : InR T) {g : Nat} (hg : g < T.groups.length) : groupBad T g = false ↔
    phG T g ≠ [] ∧ (∀ p ∈ phG T g, SetM.has (onS T : Nat) p = true) ∧ (phG T g).Nodup ∧ ∀ p ∈ phG T g, SetM.has (placed T g : Nat) p = false := by
  unfold groupBad
  rw [Bool.or_eq_false_iff, Bool.or_eq_false_iff, rep_iff h hg, first_iff, beq_eq_false_iff_ne, Bool.not_eq_false', allOn_iff (by have := memb_lt T g; omega), ← memb_eq, ne_eq, of_zero (fun p hp => ph_range hp)]
  rw [memb_eq]
  simp only [has_memb]
/-- What the document's walk through a group comes to. -/
theorem group_step {T : Tab} (h : InR T) {g : Nat} (hg : g < T.groups.length) :
    (groupBad T g = true → foldR (onS T : Nat) g (spots T) (0, placed T g) = none ∨ ∃ s, foldR (onS T : Nat) g (spots T) (0, placed T g) = some (0, s)) ∧
    (groupBad T g = false → ∃ n, foldR (onS T : Nat) g (spots T) (0, placed T g) = some (n, placed T (g + 1)) ∧ n ≠ 0) := by
  have hf : foldR (onS T : Nat) g (spots T) (0, placed T g) = ChkZ.go (onS T : Nat) (phG T g) (0, placed T g) := fold_go _ _ _ _ _
  rw [hf]
  have hi := group_iff h hg
  constructor
  · intro hb
    cases hgo : ChkZ.go (onS T : Nat) (phG T g) (0, placed T g) with
    | none => exact .inl rfl
    | some st =>
      obtain ⟨n', s'⟩ := st
      obtain ⟨a1, a2, a3, a4, a5, a6⟩ := go_good (ChkH.placed_lt T g) (fun p hp => ph_range hp) hgo
      have : phG T g = [] := by
        refine Classical.byContradiction fun hne => ?_
        have := hi.2 ⟨hne, a1, a3, a2⟩
        rw [this] at hb; cases hb
      rw [this] at a4
      exact .inr ⟨s', by rw [a4]; rfl⟩
  · intro hb
    obtain ⟨b1, b2, b3, b4⟩ := hi.1 hb
    cases hgo : ChkZ.go (onS T : Nat) (phG T g) (0, placed T g) with
    | none =>
      exfalso
      rcases go_bad hgo with ⟨p, h1, h2⟩ | ⟨p, h1, h2⟩ | h1
      · rw [b2 p h1] at h2; cases h2
      · rw [b4 p h1] at h2; cases h2
      · exact h1 b3
    | some st =>
      obtain ⟨n', s'⟩ := st
      obtain ⟨a1, a2, a3, a4, a5, a6⟩ := go_good (ChkH.placed_lt T g) (fun p hp => ph_range hp) hgo
      have e : s' = placed T (g + 1) := by
        refine SetM.has_ext a5 (ChkH.placed_lt T (g + 1)) fun q => ?_
        rw [Bool.eq_iff_iff, a6, show placed T (g + 1) = placed T g ||| membS T g from rfl, has_or (ChkH.placed_lt T g) (memb_lt T g), has_memb]
      refine ⟨n', by rw [e], ?_⟩
      rw [a4]
      have := List.length_pos_iff.2 b1
      omega
def tailC (T : Tab) : Option Int :=
  match (List.range T.groups.length).find? (groupBad T) with
  | some g => some (g : Int)
  | none => if bits .andNot .i64 (onS T : Nat) (placed T T.groups.length : Nat) = 0 then none else some 0
theorem loop_eq {T : Tab} (h : InR T) : ∀ (m g : Nat), g + m = T.groups.length → (∀ j, j < g → groupBad T j = false) → loopR T m g (placed T g) = tailC T
  | 0, g, hg, hn => by
    obtain rfl : g = T.groups.length := by omega
    unfold tailC
    rw [range_miss hn]
    simp only [loopR]
    have hon : 0 ≤ ((onS T : Nat) : Int) ∧ ((onS T : Nat) : Int) ≤ 255 := by have : onS T < 256 := SetM.of_lt _; omega
    have e : placed T T.groups.length = onS T ↔ bits .andNot .i64 (onS T : Nat) (placed T T.groups.length : Nat) = 0 := by
      rw [andNot_zero hon (ChkH.placed_lt T _)]
      constructor
      · intro e q hq; rw [e]; exact hq
      · intro hsub
        refine SetM.has_ext (ChkH.placed_lt T _) (SetM.of_lt _) fun q => ?_
        rw [Bool.eq_iff_iff]
        refine ⟨fun hq => ?_, hsub q⟩
        obtain ⟨y, h1, h2, rfl⟩ := (has_placed _).1 hq
        exact ((group_iff h h2).1 (hn y.g h2)).2.1 _ (List.mem_map.2 ⟨y, mem_inG.2 ⟨h1, rfl⟩, rfl⟩)
    by_cases he : placed T T.groups.length = onS T
    · rw [if_pos he, if_pos (e.1 he)]
    · rw [if_neg he, if_neg (fun h => he (e.2 h))]
  | m + 1, g, hg, hn => by
    have hlt : g < T.groups.length := by omega
    obtain ⟨s1, s2⟩ := group_step h hlt
    cases hb : groupBad T g with
    | true =>
      have ht : tailC T = some (g : Int) := by unfold tailC; rw [range_hit hlt hb hn]
      rw [ht]
      rcases s1 hb with h1 | ⟨s, h1⟩
      · exact RkR.loop_none h1
      · exact RkR.loop_zero h1
    | false =>
      obtain ⟨n, h1, h2⟩ := s2 hb
      rw [RkR.loop_next h1 h2]
      refine loop_eq h m (g + 1) (by omega) (fun j hj => ?_)
      by_cases e : j = g
      · subst e; exact hb
      · exact hn j (by omega)
theorem rings_eq {T : Tab} (h : InR T) : ringsC T = ringsR T := by
  unfold ringsC ringsR
  by_cases h0 : T.groups.length = 0
  · rw [if_pos h0, if_pos h0]
  · rw [if_neg h0, if_neg h0, show (0 : Nat) = placed T 0 from rfl]
    exact (loop_eq h T.groups.length 0 (by omega) (fun j hj => by omega)).symm
/-! ### all rules -/
theorem find_congr {f g : Int → Bool} : ∀ {l : List Int}, (∀ x ∈ l, f x = g x) → l.find? f = l.find? g
  | [], _ => rfl
  | x :: l, h => by
    rw [List.find?_cons, List.find?_cons, h x (List.mem_cons_self ..), find_congr (fun y hy => h y (List.mem_cons_of_mem _ hy))]
theorem idx_congr {α : Type} {f g : α → Bool} {l : List α} (h : ∀ x ∈ l, f x = g x) : idx f l = idx g l := by
  have : l.findIdx? f = l.findIdx? g := by
    induction l with
    | nil => rfl
    | cons x l ih => rw [List.findIdx?_cons, List.findIdx?_cons, h x (List.mem_cons_self ..), ih (fun y hy => h y (List.mem_cons_of_mem _ hy))]
  unfold idx
  rw [this]
theorem chk_eq {T : Tab} (h8 : T.phases.length = 8) (hc : T.conflict.length = 8) : chkC T = chkR T := by
  cases hm : tabMay T with
  | false => unfold chkC chkR rulesC rulesR mayF; rw [hm]; rfl
  | true =>
    have h := in_ranges hm
    have hb : ∀ p ∈ ons T, 0 ≤ p ∧ p < 8 := fun p hp => SetM.list_bd _ _ hp
    unfold chkC chkR rulesC rulesR
    rw [rings_eq h,
      find_congr (f := fun p => phBad (phAt T p)) (g := fun p => !phOk (phAt T p)) (fun p hp => by rw [ph_eq (ph_at h h8 (hb p hp).1 (hb p hp).2), Bool.not_not]),
      find_congr (f := confBad T) (g := fun p => !confOk T p) (fun p hp => by rw [conf_eq hp, Bool.not_not]),
      idx_congr (f := detBad T) (g := detR T) (fun d hd => by
        have hd' := h.dt d hd
        unfold Det.may at hd'
        rw [Bool.and_eq_true, allIn_iff] at hd'
        have := hd'.1 d.phase (by simp)
        exact det_eq h8 this.1 (by omega)),
      idx_congr (f := railBad T) (g := fun r => !railOk T r) (fun r hr => by rw [rail_eq h hc (h.rl r hr), Bool.not_not]),
      idx_congr (f := busBad T) (g := busR T) (fun b hb' => bus_eq (h.bs b hb')),
      find_congr (f := flashBad T) (g := fun p => !flashOk T p) (fun p hp => by rw [flash_eq, Bool.not_not])]
end Go.Proofs.YtjolhoilcibdfaaGreat.ChkZ
/- What chapter 9 gives of a table without a Fault (stage 9, CheckBeside). No program in it. -/
namespace Go.Proofs.YtjolhoilcibdfaaGreat.Bes
open Go Tab PlaceM PlanM OnS May ChkM ChkX
open ChkZ (inG phG mem_inG group_iff first_iff inj_of has_placed)
set_option linter.unusedVariables false
set_option linter.unusedSimpArgs false
theorem first_none : ∀ {l : List (Int × Option Int)}, (∀ x ∈ l, x.1 ≠ 0) → firstF l = (0, 0) → ∀ x ∈ l, x.2 = none
  | [], _, _, x, hx => by simp at hx
  | (c, some p) :: l, hc, h, x, hx => by
    exfalso
    have : c = 0 := congrArg Prod.fst h
    exact hc (c, some p) (by simp) this
  | (c, none) :: l, hc, h, x, hx => by
    rcases List.mem_cons.1 hx with rfl | hx
    · rfl
    · exact first_none (fun y hy => hc y (List.mem_cons_of_mem _ hy)) h x hx
/-- A table without a Fault. -/
structure Fine (T : Tab) : Prop where
  rg : InR T
  wh : ∀ x ∈ spots T, where_ T x.p = some x
  on : ∀ x ∈ spots T, SetM.has (onS T : Nat) x.p = true
  all : ∀ q, SetM.has (onS T : Nat) q = true → ∃ y ∈ spots T, y.p = q
  cf : ∀ p ∈ ons T, confBad T p = false
theorem Fine.inj {T : Tab} (h : Fine T) {x y : Spt} (hx : x ∈ spots T) (hy : y ∈ spots T) (e : x.p = y.p) : x = y := by
  have h1 := h.wh x hx
  rw [e, h.wh y hy] at h1
  exact (Option.some.inj h1).symm
theorem Fine.mem {T : Tab} (h : Fine T) {x : Spt} (hx : x ∈ spots T) : x.p ∈ ons T := ChkX.mem_ons.2 (h.on x hx)
theorem Fine.symm {T : Tab} (h : Fine T) {x y : Spt} (hx : x ∈ spots T) (hy : y ∈ spots T) : SetM.has (cfAt T x.p) y.p = SetM.has (cfAt T y.p) x.p := by
  have := h.cf x.p (h.mem hx)
  unfold confBad at this
  rw [Bool.or_eq_false_iff, List.any_eq_false] at this
  have h2 := this.2 y.p (h.mem hy)
  simp only [Bool.or_eq_true, not_or, bne_iff_ne, ne_eq, Classical.not_not] at h2
  exact h2.1
end Go.Proofs.YtjolhoilcibdfaaGreat.Bes
