/- 25 texts in one file, in build order. -/
import Derived.Test.YtjolhoilcibdfaaGreatRows
import Derived.Test.YtjolhoilcibdfaaGreatPart07
import Derived.Test.YtjolhoilcibdfaaGreatPart09
import Derived.Test.YtjolhoilcibdfaaGreatPart01
import Derived.Test.YtjolhoilcibdfaaGreatPart03
import Derived.Test.YtjolhoilcibdfaaGreatPart02
import Derived.StillTailTactics
import Derived.Laws.Rows
import Derived.Deep.Cut
import Derived.Laws.FloatArith
import Derived.Test.YtjolhoilcibdfaaGreatPart04
import Derived.Great.BuildSlice
import Derived.WalkKit
import Derived.Test.YtjolhoilcibdfaaGreatPart05
import Derived.Deep.CutRange
import Derived.Test.YtjolhoilcibdfaaGreatPart06
import Derived.LoopTactic
import Derived.Deep.Slices
import Derived.ChangeSame
import Derived.Laws.Cover2
set_option linter.unusedVariables false
set_option linter.unusedSimpArgs false
set_option linter.unusedSectionVars false
/- The contract of package bound's All: the bounds of a table without a Fault; the first Fault. -/
namespace Go.Proofs.YtjolhoilcibdfaaGreat.BdL
open Go.ChangeShapes Go.WideShapes Go.ChangeAt Go.RowKit
open Tab Gath OnS RefC Clear
open May (St phases_in infoP infoT row_new)
set_option linter.unusedVariables false
set_option linter.unusedSimpArgs false
open BdB BdN BdT ChkM PlaceM
open Same (Eqs)
theorem code_zero : ∀ {l : List (Int × Option Int)}, (∀ x ∈ l, x.1 ≠ 0) → (firstF l).1 = 0 → firstF l = (0, 0)
  | [], _, _ => rfl
  | (c, some p) :: l, hc, h => absurd h (hc (c, some p) (by simp))
  | (c, none) :: l, hc, h => code_zero (l := l) (fun y hy => hc y (List.mem_cons_of_mem _ hy)) h
theorem chk_zero {T : Tab} (h : (chkC T).1 = 0) : chkC T = (0, 0) := code_zero (l := rulesC T) (by unfold rulesC; simp) h
theorem rails_four {T : Tab} (h : chkC T = (0, 0)) : T.rails.length ≤ 4 := by
  have H := Bes.first_none (l := rulesC T) (by unfold rulesC; simp) h
  have h4 : mayF T = none := H (4, mayF T) (by unfold rulesC; simp)
  have hm := ChkK.none_may h4
  unfold May.tabMay at hm
  simp only [Bool.and_eq_true] at hm
  have h2 : May.listMay 4 May.Rl.may T.rails = true := by simp [hm]
  unfold May.listMay at h2
  rw [Bool.and_eq_true] at h2
  have := h2.1
  simp only [decide_eq_true_eq] at this
  omega
theorem builtB : Tryz.prog.built 65 [] = some ((List.replicate 12 (0 : Int)).map I).toArray := by kernel_rfl
set_option maxRecDepth 100000 in
set_option maxHeartbeats 8000000 in
theorem pall_any (T : Tab) (h : Hd) (w : World) (ht : IsTab w h T) (sm : Few T) :
    Calls Tryz.prog 37 #[.agg (T.cells h).toArray] w fun e w' => e = .returned (.tuple #[.agg ((allB T).map I).toArray, .agg (fcells (allF T))]) ∧ Below w.heap.size w w' := by
  have hsz := (cells_ok ht).size
  have IA : Hid ((Tryz.prog.info? 32).map (·.size) = some (T.cells h).length) := Lib.hid (by rw [List.size_toArray] at hsz; rw [hsz]; exact infoT)
  have CK0 : Hid (∀ W, Below w.heap.size w W → Calls Tryz.prog 14 #[.agg (T.cells h).toArray] W fun e w' => e = .returned (.agg (fcells (chkC T))) ∧ Below W.heap.size W w') := Lib.hid (fun W hb => ChkK.check_any T h W (ht.below hb))
  have BC : Hid (chkC T = (0, 0) → ∀ W, Below w.heap.size w W → Calls Tryz.prog 69 #[.agg (T.cells h).toArray] W fun e w' => e = .returned (.agg ((waitsL T ++ entsL T).map I).toArray) ∧ Below W.heap.size W w') := Lib.hid (fun hc W hb => bounds_any T h W (ht.below hb) sm (rails_four hc))
  have FC0 : Hid (∀ W, Below w.heap.size w W → Calls Tryz.prog 70 #[.agg (T.cells h).toArray, .agg ((waitsL T ++ entsL T).map I).toArray] W fun e w' => e = .returned (.agg (fcells (faultS T))) ∧ Below W.heap.size W w') := Lib.hid (fun W hb => pfault_any T h (waitsL T) (entsL T) W (ht.below hb) (waits_len T) (ents_len T) (waits_lo T))
  have ST := Lib.hid (laid3 w (T.cells h).toArray ((List.replicate 12 (0 : Int)).map I).toArray #[I 0, I 0] 32 65 37)
  have RS : Hid (allF T = if chkC T = (0, 0) then faultS T else chkC T) := Lib.hid rfl
  have RB : Hid (allB T = if allF T = (0, 0) then waitsL T ++ entsL T else List.replicate 12 0) := Lib.hid rfl
  have LB : Hid ((waitsL T ++ entsL T).length = 12) := Lib.hid (by rw [List.length_append, waits_len, ents_len])
  generalize allB T = rb at RB ⊢
  generalize allF T = rf at RS RB ⊢
  obtain ⟨⟨f1, f2⟩, hf⟩ : ∃ x, chkC T = x := ⟨_, rfl⟩
  obtain ⟨⟨g1, g2⟩, hg⟩ : ∃ x, faultS T = x := ⟨_, rfl⟩
  rw [hf] at RS CK0 BC
  rw [hg] at RS FC0
  have CK : Hid (∀ W, Below w.heap.size w W → Calls Tryz.prog 14 #[.agg (T.cells h).toArray] W fun e w' => e = .returned (.agg #[I f1, I f2]) ∧ Below W.heap.size W w') := Lib.hid CK0.out
  have FC : Hid (∀ W, Below w.heap.size w W → Calls Tryz.prog 70 #[.agg (T.cells h).toArray, .agg ((waitsL T ++ entsL T).map I).toArray] W fun e w' => e = .returned (.agg #[I g1, I g2]) ∧ Below W.heap.size W w') := Lib.hid FC0.out
  clear hf hg CK0 FC0 ht sm
  have EF : Hid (Eqs 37 [I f1, I f2] [I 0, I 0] (decide (f1 = 0 ∧ f2 = 0))) := Lib.hid (ChkK.fault_eqs f1 f2 0 0)
  have EG : Hid (Eqs 37 [I g1, I g2] [I 0, I 0] (decide (g1 = 0 ∧ g2 = 0))) := Lib.hid (ChkK.fault_eqs g1 g2 0 0)
  generalize T.cells h = c at *
  generalize hbl : waitsL T ++ entsL T = bl at *
  clear hbl
  have hz := (zero_of_info infoBz).1
  have ZI : Hid ((Tryz.prog.info? 65).map (·.size) = some ((List.replicate 12 (0 : Int)).map I).toArray.size) := Lib.hid infoB
  have ZO : Hid (((List.replicate 12 (0 : Int)).map I).toArray.all (·.oneCell') = true) := Lib.hid (bone (zeros 8) (zeros 4))
  have BZ := Lib.hid builtB
  have ZE : bcells (zeros 8) (zeros 4) = ((List.replicate 12 (0 : Int)).map I).toArray := rfl
  rw [ZE] at hz
  clear ZE
  have RZ : Hid (∀ L : List Int, L = List.replicate 12 0 → (L.map I).toArray = ((List.replicate 12 (0 : Int)).map I).toArray) := Lib.hid (fun L e => by rw [e])
  have Z12 : Hid (((List.replicate 12 (0 : Int)).map I).toArray.size = 12) := Lib.hid rfl
  generalize ((List.replicate 12 (0 : Int)).map I).toArray = Z at *
  go_enter Tryz.func37, Tryz.ntmps37
  go_upto_region 1 with fail
  generalize ((w.alloc (.cells c.toArray 32)).alloc (.cells Z 65)).alloc (.cells #[I 0, I 0] 37) = w1 at ST ⊢
  clear hsz
  have LT : Hid (∀ u, Below w1.heap.size w1 u → Lies u ⟨w.heap.size, 0, none⟩ c) := Lib.hid (fun u hu => by have := bks_lies (ST.out.step hu) (x := (w.heap.size, c.toArray, 32)) (by simp); simpa using this)
  have SZ : Hid (w.heap.size + 3 ≤ w1.heap.size) := Lib.hid (by
    have := (Array.getElem?_eq_some_iff.1 (ST.out.blk (w.heap.size + 2, #[I 0, I 0], 37) (by simp))).1
    exact this)
  go_wp2_with (refine Row.wpList_load_g 32 _ rfl (by first | rfl | go_simp) ⟨w.heap.size, 0, none⟩ rfl c _ (LT.out _ (Below.refl _ _)) Tryz.underlying32 rfl IA.out ?_)
  refine (CK.out _ ST.out.bel).mono ?_
  rintro e u1 ⟨rfl, hb⟩
  have W1 : Hid (Below w1.heap.size w1 (u1.alloc (.cells #[I f1, I f2] 37))) := Lib.hid (hb.alloc hb.size _)
  have NE : Hid (u1.heap.size ≠ w.heap.size + 1 ∧ u1.heap.size ≠ w.heap.size + 2) := Lib.hid (by have := hb.size; have := SZ.out; omega)
  clear hb CK
  go_upto_region 2 with (refine Row.wpList_store_new rfl 37 _ _ rfl u1 _ #[I f1, I f2] rfl rfl rfl infoF rfl (by simp [Value.oneCell']) ?_)
  have KF : Hid ((u1.alloc (.cells #[I f1, I f2] 37)).heap[u1.heap.size]? = some (.cells #[I f1, I f2] 37 (0, 0))) := Lib.hid (heap_alloc_new _ _)
  generalize u1.alloc (.cells #[I f1, I f2] 37) = u2 at W1 KF ⊢
  generalize u1.heap.size = m1 at NE KF ⊢
  have S2 := Lib.hid (ST.out.step W1.out)
  have BF := Lib.hid S2.out.bel
  have K1 : Hid (u2.heap[w.heap.size + 1]? = some (.cells Z 65 (0, 0))) := Lib.hid (S2.out.blk (w.heap.size + 1, Z, 65) (by simp))
  have K2 : Hid (u2.heap[w.heap.size + 2]? = some (.cells #[I 0, I 0] 37 (0, 0))) := Lib.hid (S2.out.blk (w.heap.size + 2, #[I 0, I 0], 37) (by simp))
  have HL : Hid (Lies u2 ⟨m1, 0, none⟩ [I f1, I f2]) := Lib.hid (by have := Row.lies_of_block KF.out; simpa using this)
  clear S2
  by_cases hf : f1 = 0 ∧ f2 = 0
  rotate_left
  · have RR : Hid (Value.tuple #[.agg Z, .agg #[I f1, I f2]] = .tuple #[.agg (rb.map I).toArray, .agg (fcells rf)]) := Lib.hid (by
      have h1 : rf = (f1, f2) := by rw [RS.out, if_neg (fun e => hf (by injection e with a b; exact ⟨a, b⟩))]
      have h2 : rb = List.replicate 12 0 := by rw [RB.out, if_neg (by rw [h1]; exact fun e => hf (by injection e with a b; exact ⟨a, b⟩))]
      rw [RZ.out rb h2, h1]; rfl)
    have EF2 : Hid (Eqs 37 [I f1, I f2] [I 0, I 0] false) := Lib.hid (by have := EF.out; rwa [decide_eq_false hf] at this)
    clear RS RB EF EG BC FC LT hf
    go_upto_region 3 with (first | (refine Row.wpList_load_g 37 _ rfl (by first | rfl | go_simp) ⟨m1, 0, none⟩ rfl [I f1, I f2] _ HL.out Tryz.underlying37 rfl infoF ?_) | (refine Row.wpList_neq 37 _ _ _ rfl (by rfl) #[I f1, I f2] #[I 0, I 0] rfl rfl ChkK.guardF false EF2.out ?_))
    have D0 : Hid (Below w.heap.size w { u2 with drawn := u2.drawn + 1 }) := Lib.hid BF.out.drew
    have D1 : Hid (({ u2 with drawn := u2.drawn + 1 } : World).heap[w.heap.size + 1]? = some (.cells Z 65 (0, 0))) := Lib.hid K1.out
    have D2 : Hid (({ u2 with drawn := u2.drawn + 1 } : World).heap[w.heap.size + 2]? = some (.cells #[I 0, I 0] 37 (0, 0))) := Lib.hid K2.out
    refine wp_region_held (S := fun v => v.heap[m1]? = some (.cells #[I f1, I f2] 37 (0, 0))) (by kernel_rfl) ?_
    have hS : ({ u2 with drawn := u2.drawn + 1 } : World).heap[m1]? = some (.cells #[I f1, I f2] 37 (0, 0)) := KF.out
    generalize ({ u2 with drawn := u2.drawn + 1 } : World) = v at hS D0 D1 D2 ⊢
    refine Held.take_build (i := 0) (some 12) rfl 65 #[] Z rfl rfl (by kernel_rfl) (by kernel_rfl) (by kernel_rfl) (fun _ _ _ h => h) (by rfl) hS (by simpa using BZ.out) ?_
    (try dsimp only [Act.put]); (try simp only [List.setIfInBounds_toArray, List.set_cons_zero, List.set_cons_succ])
    refine Held.take_load (i := 1) (some 13) rfl 37 _ ⟨m1, 0, none⟩ [I f1, I f2] _ rfl rfl (by kernel_rfl) (by kernel_rfl) (by kernel_rfl) (fun _ _ _ h => h) (by rfl) hS rfl (fun w' hw' => by have := Row.lies_of_block hw'; simpa using this) Tryz.underlying37 rfl infoF ?_
    (try dsimp only [Act.put]); (try simp only [List.setIfInBounds_toArray, List.set_cons_zero, List.set_cons_succ])
    refine wpAnyH_ready (rs := [2]) (by kernel_rfl) (by simp) (AllReadyH.cons rfl (fun K hK => ?_) AllReadyH.nil)
    rw [if_pos (by rfl)]
    refine wp_store_row 65 _ _ rfl (w.heap.size + 1) Z rfl rfl 65 _ D1.out ZI.out rfl ZO.out ?_
    have hS2 : (v.setRow (w.heap.size + 1) Z).heap[m1]? = some (.cells #[I f1, I f2] 37 (0, 0)) := (setRow_other _ _ _ _ NE.out.1).trans hS
    have E0 := Lib.hid (Same.below_setRow D0.out (g := (w.heap.size + 1)) (by omega) Z)
    have E1 := Lib.hid (setRow_heap v (w.heap.size + 1) _ Z _ _ D1.out)
    have E2 : Hid ((v.setRow (w.heap.size + 1) Z).heap[w.heap.size + 2]? = some (.cells #[I 0, I 0] 37 (0, 0))) := Lib.hid ((setRow_other _ _ _ _ (by omega)).trans D2.out)
    generalize v.setRow (w.heap.size + 1) Z = v2 at hS2 E0 E1 E2 ⊢
    refine hK.out _ _ hS2 (fun hS => ?_)
    clear hK K hS2 D0 D1 D2
    (try dsimp only [Act.put]); (try simp only [List.setIfInBounds_toArray, List.set_cons_zero, List.set_cons_succ])
    refine wpAnyH_ready (rs := [3]) (by kernel_rfl) (by simp) (AllReadyH.cons rfl (fun K hK => ?_) AllReadyH.nil)
    rw [if_pos (by rfl)]
    refine wp_store_row 37 _ _ rfl (w.heap.size + 2) #[I f1, I f2] rfl rfl 37 _ E2.out infoF rfl (by simp [Value.oneCell']) ?_
    have hS3 : (v2.setRow (w.heap.size + 2) #[I f1, I f2]).heap[m1]? = some (.cells #[I f1, I f2] 37 (0, 0)) := (setRow_other _ _ _ _ NE.out.2).trans hS
    have F0 := Lib.hid (Same.below_setRow E0.out (g := (w.heap.size + 2)) (by omega) #[I f1, I f2])
    have F2 := Lib.hid (setRow_heap v2 (w.heap.size + 2) _ #[I f1, I f2] _ _ E2.out)
    have F1 : Hid ((v2.setRow (w.heap.size + 2) #[I f1, I f2]).heap[w.heap.size + 1]? = some (.cells Z 65 (0, 0))) := Lib.hid ((setRow_other _ _ _ _ (by omega)).trans E1.out)
    generalize v2.setRow (w.heap.size + 2) #[I f1, I f2] = v3 at hS3 F0 F1 F2 ⊢
    refine hK.out _ _ hS3 (fun hS => ?_)
    clear hK K hS3 E0 E1 E2
    refine wpAnyH_done (by kernel_rfl) ?_ _
    (try go_wp2_with fail)
    (try simp only [Exit.inBlock, Exit.then])
    refine bodyPost_ret (v := .tuple #[.agg Z, .agg #[I f1, I f2]]) ?_ rfl ⟨by rw [RR.out], F0.out⟩
    exact results_two rfl _ _ (w.heap.size + 1) (w.heap.size + 2) 65 37 Z #[I f1, I f2] _ _ rfl rfl F1.out F2.out Tryz.underlying65 rfl ZI.out Tryz.underlying37 rfl infoF
  obtain ⟨rfl, rfl⟩ := hf
  have RS2 : Hid (rf = (g1, g2)) := Lib.hid (by rw [RS.out, if_pos rfl])
  have EF2 : Hid (Eqs 37 [I 0, I 0] [I 0, I 0] true) := Lib.hid (by have := EF.out; rwa [decide_eq_true (by simp)] at this)
  have BC1 := Lib.hid (BC.out rfl)
  clear RS EF BC
  go_upto_region 4 with (first | (refine Row.wpList_load_g 37 _ rfl (by first | rfl | go_simp) ⟨m1, 0, none⟩ rfl [I 0, I 0] _ HL.out Tryz.underlying37 rfl infoF ?_) | (refine Row.wpList_neq 37 _ _ _ rfl (by rfl) #[I 0, I 0] #[I 0, I 0] rfl rfl ChkK.guardF true EF2.out ?_))
  clear HL EF2 KF NE
  go_wp2_with (refine Row.wpList_load_g 32 _ rfl (by first | rfl | go_simp) ⟨w.heap.size, 0, none⟩ rfl c _ (LT.out _ W1.out) Tryz.underlying32 rfl IA.out ?_)
  refine (BC1.out _ BF.out).mono ?_
  rintro e u3 ⟨rfl, hb⟩
  have BL : Hid ((Tryz.prog.info? 65).map (·.size) = some (bl.map I).length) := Lib.hid (by rw [List.length_map, LB.out]; exact infoB)
  have BO : Hid ((bl.map I).toArray.all (·.oneCell') = true) := Lib.hid (by simp [Value.oneCell'])
  have RB2 : Hid (rb = if (g1, g2) = ((0, 0) : Int × Int) then bl else List.replicate 12 0) := Lib.hid (by rw [RB.out, RS2.out])
  have RL : Hid (∀ L : List Int, L = bl → (L.map I).toArray = (bl.map I).toArray) := Lib.hid (fun L e => by rw [e])
  have BL12 : Hid ((bl.map I).length = 12) := Lib.hid (by rw [List.length_map, LB.out])
  clear RB LB BC1
  generalize hbc : bl.map I = bc at *
  clear hbc
  have W3 : Hid (Below u2.heap.size u2 (u3.alloc (.cells bc.toArray 65))) := Lib.hid (hb.alloc hb.size _)
  clear hb
  go_upto_region 5 with (refine Row.wpList_store_new rfl 65 _ _ rfl u3 _ bc.toArray rfl rfl rfl (by rw [List.size_toArray]; exact BL.out) (by rw [Z12.out, List.size_toArray, BL12.out]) BO.out ?_)
  have KB : Hid ((u3.alloc (.cells bc.toArray 65)).heap[u3.heap.size]? = some (.cells bc.toArray 65 (0, 0))) := Lib.hid (heap_alloc_new _ _)
  generalize u3.alloc (.cells bc.toArray 65) = u4 at W3 KB ⊢
  generalize u3.heap.size = m2 at KB ⊢
  have W4 : Hid (Below w1.heap.size w1 u4) := Lib.hid (W1.out.trans (W3.out.mono W1.out.size))
  have HB : Hid (Lies u4 ⟨m2, 0, none⟩ bc) := Lib.hid (by have := Row.lies_of_block KB.out; simpa using this)
  clear W1 BF K1 K2 W3 hz
  go_wp2_with (first | (refine Row.wpList_load_g 32 _ rfl (by first | rfl | go_simp) ⟨w.heap.size, 0, none⟩ rfl c _ (LT.out _ W4.out) Tryz.underlying32 rfl IA.out ?_) | (refine Row.wpList_load_g 65 _ rfl (by first | rfl | go_simp) ⟨m2, 0, none⟩ rfl bc _ HB.out Tryz.underlying65 rfl BL.out ?_))
  refine (FC.out _ (ST.out.step W4.out).bel).mono ?_
  rintro e u5 ⟨rfl, hb⟩
  have W5 : Hid (Below u4.heap.size u4 (u5.alloc (.cells #[I g1, I g2] 37))) := Lib.hid (hb.alloc hb.size _)
  have NE : Hid (u5.heap.size ≠ w.heap.size + 1 ∧ u5.heap.size ≠ w.heap.size + 2) := Lib.hid (by have := hb.size; have := W4.out.size; have := SZ.out; omega)
  clear hb FC HB
  go_upto_region 6 with (refine Row.wpList_store_new rfl 37 _ _ rfl u5 _ #[I g1, I g2] rfl rfl rfl infoF rfl (by simp [Value.oneCell']) ?_)
  have KF : Hid ((u5.alloc (.cells #[I g1, I g2] 37)).heap[u5.heap.size]? = some (.cells #[I g1, I g2] 37 (0, 0))) := Lib.hid (heap_alloc_new _ _)
  generalize u5.alloc (.cells #[I g1, I g2] 37) = u6 at W5 KF ⊢
  generalize u5.heap.size = m3 at NE KF ⊢
  have S6 := Lib.hid (ST.out.step (W4.out.trans (W5.out.mono W4.out.size)))
  have BF := Lib.hid S6.out.bel
  have K1 : Hid (u6.heap[w.heap.size + 1]? = some (.cells Z 65 (0, 0))) := Lib.hid (S6.out.blk (w.heap.size + 1, Z, 65) (by simp))
  have K2 : Hid (u6.heap[w.heap.size + 2]? = some (.cells #[I 0, I 0] 37 (0, 0))) := Lib.hid (S6.out.blk (w.heap.size + 2, #[I 0, I 0], 37) (by simp))
  have HL : Hid (Lies u6 ⟨m3, 0, none⟩ [I g1, I g2]) := Lib.hid (by have := Row.lies_of_block KF.out; simpa using this)
  have HB : Hid (Lies u6 ⟨m2, 0, none⟩ bc) := Lib.hid (by have := Row.lies_of_block ((W5.out.block _ (Array.getElem?_eq_some_iff.1 KB.out).1).trans KB.out); simpa using this)
  clear S6 W4 W5 KB ST LT IA
  by_cases hg : g1 = 0 ∧ g2 = 0
  rotate_left
  · have RR : Hid (Value.tuple #[.agg Z, .agg #[I g1, I g2]] = .tuple #[.agg (rb.map I).toArray, .agg (fcells rf)]) := Lib.hid (by
      have h2 : rb = List.replicate 12 0 := by rw [RB2.out, if_neg (fun e => hg (by injection e with a b; exact ⟨a, b⟩))]
      rw [RZ.out rb h2, RS2.out]; rfl)
    have EG2 : Hid (Eqs 37 [I g1, I g2] [I 0, I 0] false) := Lib.hid (by have := EG.out; rwa [decide_eq_false hg] at this)
    clear RB2 RS2 EG hg HB RL
    go_upto_region 7 with (first | (refine Row.wpList_load_g 37 _ rfl (by first | rfl | go_simp) ⟨m3, 0, none⟩ rfl [I g1, I g2] _ HL.out Tryz.underlying37 rfl infoF ?_) | (refine Row.wpList_neq 37 _ _ _ rfl (by rfl) #[I g1, I g2] #[I 0, I 0] rfl rfl ChkK.guardF false EG2.out ?_))
    have D0 : Hid (Below w.heap.size w { u6 with drawn := u6.drawn + 1 }) := Lib.hid BF.out.drew
    have D1 : Hid (({ u6 with drawn := u6.drawn + 1 } : World).heap[w.heap.size + 1]? = some (.cells Z 65 (0, 0))) := Lib.hid K1.out
    have D2 : Hid (({ u6 with drawn := u6.drawn + 1 } : World).heap[w.heap.size + 2]? = some (.cells #[I 0, I 0] 37 (0, 0))) := Lib.hid K2.out
    refine wp_region_held (S := fun v => v.heap[m3]? = some (.cells #[I g1, I g2] 37 (0, 0))) (by kernel_rfl) ?_
    have hS : ({ u6 with drawn := u6.drawn + 1 } : World).heap[m3]? = some (.cells #[I g1, I g2] 37 (0, 0)) := KF.out
    generalize ({ u6 with drawn := u6.drawn + 1 } : World) = v at hS D0 D1 D2 ⊢
    refine Held.take_build (i := 0) (some 22) rfl 65 #[] Z rfl rfl (by kernel_rfl) (by kernel_rfl) (by kernel_rfl) (fun _ _ _ h => h) (by rfl) hS (by simpa using BZ.out) ?_
    (try dsimp only [Act.put]); (try simp only [List.setIfInBounds_toArray, List.set_cons_zero, List.set_cons_succ])
    refine Held.take_load (i := 1) (some 23) rfl 37 _ ⟨m3, 0, none⟩ [I g1, I g2] _ rfl rfl (by kernel_rfl) (by kernel_rfl) (by kernel_rfl) (fun _ _ _ h => h) (by rfl) hS rfl (fun w' hw' => by have := Row.lies_of_block hw'; simpa using this) Tryz.underlying37 rfl infoF ?_
    (try dsimp only [Act.put]); (try simp only [List.setIfInBounds_toArray, List.set_cons_zero, List.set_cons_succ])
    refine wpAnyH_ready (rs := [2]) (by kernel_rfl) (by simp) (AllReadyH.cons rfl (fun K hK => ?_) AllReadyH.nil)
    rw [if_pos (by rfl)]
    refine wp_store_row 65 _ _ rfl (w.heap.size + 1) Z rfl rfl 65 _ D1.out ZI.out rfl ZO.out ?_
    have hS2 : (v.setRow (w.heap.size + 1) Z).heap[m3]? = some (.cells #[I g1, I g2] 37 (0, 0)) := (setRow_other _ _ _ _ NE.out.1).trans hS
    have E0 := Lib.hid (Same.below_setRow D0.out (g := (w.heap.size + 1)) (by omega) Z)
    have E1 := Lib.hid (setRow_heap v (w.heap.size + 1) _ Z _ _ D1.out)
    have E2 : Hid ((v.setRow (w.heap.size + 1) Z).heap[w.heap.size + 2]? = some (.cells #[I 0, I 0] 37 (0, 0))) := Lib.hid ((setRow_other _ _ _ _ (by omega)).trans D2.out)
    generalize v.setRow (w.heap.size + 1) Z = v2 at hS2 E0 E1 E2 ⊢
    refine hK.out _ _ hS2 (fun hS => ?_)
    clear hK K hS2 D0 D1 D2
    (try dsimp only [Act.put]); (try simp only [List.setIfInBounds_toArray, List.set_cons_zero, List.set_cons_succ])
    refine wpAnyH_ready (rs := [3]) (by kernel_rfl) (by simp) (AllReadyH.cons rfl (fun K hK => ?_) AllReadyH.nil)
    rw [if_pos (by rfl)]
    refine wp_store_row 37 _ _ rfl (w.heap.size + 2) #[I g1, I g2] rfl rfl 37 _ E2.out infoF rfl (by simp [Value.oneCell']) ?_
    have hS3 : (v2.setRow (w.heap.size + 2) #[I g1, I g2]).heap[m3]? = some (.cells #[I g1, I g2] 37 (0, 0)) := (setRow_other _ _ _ _ NE.out.2).trans hS
    have F0 := Lib.hid (Same.below_setRow E0.out (g := (w.heap.size + 2)) (by omega) #[I g1, I g2])
    have F2 := Lib.hid (setRow_heap v2 (w.heap.size + 2) _ #[I g1, I g2] _ _ E2.out)
    have F1 : Hid ((v2.setRow (w.heap.size + 2) #[I g1, I g2]).heap[w.heap.size + 1]? = some (.cells Z 65 (0, 0))) := Lib.hid ((setRow_other _ _ _ _ (by omega)).trans E1.out)
    generalize v2.setRow (w.heap.size + 2) #[I g1, I g2] = v3 at hS3 F0 F1 F2 ⊢
    refine hK.out _ _ hS3 (fun hS => ?_)
    clear hK K hS3 E0 E1 E2
    refine wpAnyH_done (by kernel_rfl) ?_ _
    (try go_wp2_with fail)
    (try simp only [Exit.inBlock, Exit.then])
    refine bodyPost_ret (v := .tuple #[.agg Z, .agg #[I g1, I g2]]) ?_ rfl ⟨by rw [RR.out], F0.out⟩
    exact results_two rfl _ _ (w.heap.size + 1) (w.heap.size + 2) 65 37 Z #[I g1, I g2] _ _ rfl rfl F1.out F2.out Tryz.underlying65 rfl ZI.out Tryz.underlying37 rfl infoF
  obtain ⟨rfl, rfl⟩ := hg
  have RR : Hid (Value.tuple #[.agg bc.toArray, .agg #[I 0, I 0]] = .tuple #[.agg (rb.map I).toArray, .agg (fcells rf)]) := Lib.hid (by
    have h2 : rb = bl := by rw [RB2.out, if_pos rfl]
    rw [RL.out rb h2, RS2.out]; rfl)
  have EG2 : Hid (Eqs 37 [I 0, I 0] [I 0, I 0] true) := Lib.hid (by have := EG.out; rwa [decide_eq_true (by simp)] at this)
  clear RB2 RS2 EG RL
  go_upto_region 8 with (first | (refine Row.wpList_load_g 37 _ rfl (by first | rfl | go_simp) ⟨m3, 0, none⟩ rfl [I 0, I 0] _ HL.out Tryz.underlying37 rfl infoF ?_) | (refine Row.wpList_neq 37 _ _ _ rfl (by rfl) #[I 0, I 0] #[I 0, I 0] rfl rfl ChkK.guardF true EG2.out ?_))
  clear EG2 HL KF
  have E0 := Lib.hid (Same.below_setRow BF.out (g := w.heap.size + 1) (by omega) bc.toArray)
  have E1 := Lib.hid (setRow_heap u6 (w.heap.size + 1) _ bc.toArray _ _ K1.out)
  have E2 : Hid ((u6.setRow (w.heap.size + 1) bc.toArray).heap[w.heap.size + 2]? = some (.cells #[I 0, I 0] 37 (0, 0))) := Lib.hid ((setRow_other _ _ _ _ (by omega)).trans K2.out)
  have F0 := Lib.hid (Same.below_setRow E0.out (g := w.heap.size + 2) (by omega) #[I 0, I 0])
  have F2 := Lib.hid (setRow_heap (u6.setRow (w.heap.size + 1) bc.toArray) (w.heap.size + 2) _ #[I 0, I 0] _ _ E2.out)
  have F1 : Hid (((u6.setRow (w.heap.size + 1) bc.toArray).setRow (w.heap.size + 2) #[I 0, I 0]).heap[w.heap.size + 1]? = some (.cells bc.toArray 65 (0, 0))) := Lib.hid ((setRow_other _ _ _ _ (by omega)).trans E1.out)
  go_wp2_with (first | (refine Row.wpList_load_g 65 _ rfl (by first | rfl | go_simp) ⟨m2, 0, none⟩ rfl bc _ HB.out Tryz.underlying65 rfl BL.out ?_) | (refine wpList_store_row rfl 65 _ _ rfl (w.heap.size + 1) bc.toArray rfl rfl 65 _ K1.out (by rw [List.size_toArray]; exact BL.out) (by rw [Z12.out, List.size_toArray, BL12.out]) BO.out ?_) | (refine wpList_store_row rfl 37 _ _ rfl (w.heap.size + 2) #[I 0, I 0] rfl rfl 37 _ E2.out infoF rfl (by simp [Value.oneCell']) ?_))
  generalize (u6.setRow (w.heap.size + 1) bc.toArray).setRow (w.heap.size + 2) #[I 0, I 0] = v3 at F0 F1 F2 ⊢
  (try go_wp2_with fail)
  (try simp only [Exit.inBlock, Exit.then])
  refine bodyPost_ret (v := .tuple #[.agg bc.toArray, .agg #[I 0, I 0]]) ?_ rfl ⟨by rw [RR.out], F0.out⟩
  exact results_two rfl _ _ (w.heap.size + 1) (w.heap.size + 2) 65 37 bc.toArray #[I 0, I 0] _ _ rfl rfl F1.out F2.out Tryz.underlying65 rfl (by rw [List.size_toArray]; exact BL.out) Tryz.underlying37 rfl infoF
end Go.Proofs.YtjolhoilcibdfaaGreat.BdL
/- The contract of the generator's own phase. -/
namespace Go.Proofs.YtjolhoilcibdfaaGreat.GenP
open Go.ChangeShapes Go.WideShapes Go.ChangeAt Go.RowKit
open Tab Clone RefS
open May (infoP)
open Same (below_setRow)
set_option linter.unusedVariables false
set_option linter.unusedSimpArgs false
end Go.Proofs.YtjolhoilcibdfaaGreat.GenP
/- The contract of the generator's own detector. -/
namespace Go.Proofs.YtjolhoilcibdfaaGreat.GenD
open Go.ChangeShapes Go.WideShapes Go.ChangeAt Go.RowKit
open Tab Clone RefS
open May (infoD)
open Same (below_setRow)
set_option linter.unusedVariables false
set_option linter.unusedSimpArgs false
end Go.Proofs.YtjolhoilcibdfaaGreat.GenD
/- The contract of the generator's own with: a set of a phase, and of another one that stands beside it. -/
namespace Go.Proofs.YtjolhoilcibdfaaGreat.GenW
open Go.ChangeShapes Go.WideShapes Go.ChangeAt Go.RowKit
open Tab Clone RefS Where
open PlaceM (where_ beside)
open May (infoT)
set_option linter.unusedVariables false
set_option linter.unusedSimpArgs false
end Go.Proofs.YtjolhoilcibdfaaGreat.GenW
/- A part of a function's code by its region's number: so a region can be walked in a theorem of its own. -/
namespace Go.Proofs.YtjolhoilcibdfaaGreat.CodeAt
open Go
end Go.Proofs.YtjolhoilcibdfaaGreat.CodeAt
/- The contract of table.Same, at any two tables: they are one, or not. -/
namespace Go.Proofs.YtjolhoilcibdfaaGreat.Same
open Go.ChangeShapes Go.WideShapes Go.ChangeAt Go.RowKit
open Tab
open May (ret_bool chain take_succ' infoP infoG infoD infoR infoB infoT row_new St)
set_option linter.unusedVariables false
set_option linter.unusedSimpArgs false
end Go.Proofs.YtjolhoilcibdfaaGreat.Same
/- The contract of the document's SameInts. -/
namespace Go.Proofs.YtjolhoilcibdfaaGreat.Same
open Go.ChangeShapes Go.WideShapes Go.ChangeAt Go.RowKit
open Tab
open May (ret_bool chain take_succ' infoP infoG infoD infoR infoB infoT row_new St)
set_option linter.unusedVariables false
set_option linter.unusedSimpArgs false
end Go.Proofs.YtjolhoilcibdfaaGreat.Same
/- Region 13 of the document's Same: two detectors are boxed. -/
namespace Go.Proofs.YtjolhoilcibdfaaGreat.Same
open Go.ChangeShapes Go.WideShapes Go.ChangeAt Go.RowKit
open Tab Owned CodeAt
open May (ret_bool chain take_succ' infoP infoG infoD infoR infoB infoT row_new St)
set_option linter.unusedVariables false
set_option linter.unusedSimpArgs false
end Go.Proofs.YtjolhoilcibdfaaGreat.Same
/- Region 1 of the generator's own rail: four numbers, two sets, a new rail. -/
namespace Go.Proofs.YtjolhoilcibdfaaGreat.GenR
open Go.ChangeShapes Go.WideShapes Go.ChangeAt Go.RowKit
open Tab Clone RefS CodeAt
open May (infoR infoT)
open Same (below_setRow)
open GenW Where
set_option linter.unusedVariables false
set_option linter.unusedSimpArgs false
end Go.Proofs.YtjolhoilcibdfaaGreat.GenR
/- The contract of the generator's own rail. -/
namespace Go.Proofs.YtjolhoilcibdfaaGreat.GenR
open Go.ChangeShapes Go.WideShapes Go.ChangeAt Go.RowKit
open Tab Clone RefS
open May (infoR infoT)
open GenW Where
open Same (below_setRow)
set_option linter.unusedVariables false
set_option linter.unusedSimpArgs false
end Go.Proofs.YtjolhoilcibdfaaGreat.GenR
/- The table by numbers: plain data, and the box in which it is built. -/
namespace Go.Proofs.YtjolhoilcibdfaaGreat.CodeAt
open Go
end Go.Proofs.YtjolhoilcibdfaaGreat.CodeAt
namespace Go.Proofs.YtjolhoilcibdfaaGreat.GenT
open Go Go.RowKit
open Tab Gath GenG Clone PlaceM
open RefS (num num_range)
set_option linter.unusedVariables false
set_option linter.unusedSimpArgs false
def zTab : Tab := ⟨[zPh, zPh, zPh, zPh, zPh, zPh, zPh, zPh], [], [0, 0, 0, 0, 0, 0, 0, 0], [], [], [], 0, 0, 0, 0, 0, [0, 0, 0, 0, 0, 0, 0, 0], 0, 0⟩
/-! ### How a table's cells change -/
/-! ### The box -/
def KT (w : World) (s : Sl) (t : TypeId) : Prop := ∀ x, s.a = some x → ∃ cs : Array Value, w.heap[x.block]? = some (.cells cs t (0, 0))
theorem KT.grown {w w' : World} {s : Sl} {t : TypeId} {row : Option Nat} (h : KT w s t) (hg : w.grownBy w' row) (hne : ∀ x, s.a = some x → some x.block ≠ row) : KT w' s t := fun x hx => by
  obtain ⟨cs, hc⟩ := h x hx
  exact ⟨cs, (hg.block _ (Array.getElem?_eq_some_iff.1 hc).1 (hne x hx)).trans hc⟩
theorem KT.ne {w : World} {s : Sl} {b : Nat} {cs : Array Value} {t t' : TypeId} (h : KT w s t) (hb : w.heap[b]? = some (.cells cs t' (0, 0))) (ht : t' ≠ t) : ∀ x, s.a = some x → x.block ≠ b := by
  intro x hx e
  obtain ⟨ds, hc⟩ := h x hx
  rw [e, hb] at hc
  simp at hc
  exact ht hc.2
theorem row_grown {α : Type} {n : Nat} {enc : α → List Value} {w w' : World} {s : Sl} {l : List α} {row : Option Nat} (h : RowOf n enc w s l) (hg : w.grownBy w' row) (hne : ∀ x, s.a = some x → some x.block ≠ row) : RowOf n enc w' s l := by
  rcases h with h | ⟨x, h1, h2, h3, h4⟩
  · exact .inl h
  · exact .inr ⟨x, h1, h2, h3, fun i v hv j u hu => hg.cell (h4 i v hv j u hu) (by rw [add_block, add_block]; exact hne x h1)⟩
/-- The groups of a table, in blocks of their types. -/
def GrT (w : World) (s : Sl) (l : List (List Int × List Int)) : Prop := ∃ gs : List Gr, gs.map Gr.data = l ∧ RowOf 2 Gr.cells w s gs ∧ KT w s 41 ∧ ∀ g ∈ gs, RowI w g.s0 g.r0 ∧ RowI w g.s1 g.r1
theorem GrT.grown {w w' : World} {s : Sl} {l : List (List Int × List Int)} {row : Option Nat} (h : GrT w s l) (hg : w.grownBy w' row) (hr : ∀ m, row = some m → ∃ cs t, w.heap[m]? = some (.cells cs t (0, 0)) ∧ t ≠ 41 ∧ t ≠ 3) : GrT w' s l := by
  obtain ⟨gs, h1, h2, h3, h4⟩ := h
  have hI : ∀ (s : Sl) (l : List Int), RowI w s l → RowI w' s l := fun s l hs => hs.grown hg (fun x hx e => by
    obtain ⟨cs, t, hb, _, ht⟩ := hr _ e.symm
    exact hs.ne hb ht x hx rfl)
  have hn : ∀ x, s.a = some x → some x.block ≠ row := fun x hx e => by
    obtain ⟨cs, t, hb, ht, _⟩ := hr _ e.symm
    exact h3.ne hb ht x hx rfl
  exact ⟨gs, h1, row_grown h2 hg hn, h3.grown hg hn, fun g hgm => ⟨hI _ _ (h4 g hgm).1, hI _ _ (h4 g hgm).2⟩⟩
theorem GrT.lie {w : World} {s : Sl} {l : List (List Int × List Int)} (h : GrT w s l) : ∃ gs : List Gr, gs.map Gr.data = l ∧ GroupsLie w s gs := by
  obtain ⟨gs, h1, h2, h3, h4⟩ := h
  exact ⟨gs, h1, h2, fun g hg => ⟨(h4 g hg).1.1, (h4 g hg).2.1⟩⟩
def zHd : Hd := ⟨⟨none, 0⟩, ⟨none, 0⟩, ⟨none, 0⟩, ⟨none, 0⟩⟩
/-- The generator's two boxes: the result's, and the table that is built. -/
structure Bx (w : World) (hd : Hd) (T : Tab) (W : World) : Prop where
  bel : Below w.heap.size w W
  res : W.heap[w.heap.size]? = some (.cells (zTab.cells zHd).toArray 32 (0, 0))
  blk : W.heap[w.heap.size + 1]? = some (.cells (T.cells hd).toArray 32 (0, 0))
  ph : T.phases.length = 8
  cf : T.conflict.length = 8
  fl : T.flash.length = 8
  groups : GrT W hd.g T.groups
  dets : Owns Det.cells 7 w.heap.size W 45 (hd.d.val T.dets.length) T.dets
  rails : Owns Rl.cells 11 w.heap.size W 47 (hd.r.val T.rails.length) T.rails
  buses : Owns Bs.cells 2 w.heap.size W 49 (hd.b.val T.buses.length) T.buses
theorem own_is {α : Type} {enc : α → List Value} {n B : Nat} {w : World} {t : TypeId} {s : Sl} {l : List α} (henc : ∀ x, (enc x).length = n) (h : Owns enc n B w t (s.val l.length) l) : RowOf n enc w s l := by
  obtain ⟨s', e, r⟩ := Owns.row h henc
  obtain ⟨a, c⟩ := s
  obtain ⟨a', c'⟩ := s'
  simp only [Sl.val, Value.slice.injEq] at e
  obtain ⟨rfl, _, rfl⟩ := e
  exact r
theorem Bx.tab {w W : World} {hd : Hd} {T : Tab} (h : Bx w hd T W) : IsTab W hd T :=
  ⟨h.ph, h.cf, h.fl, h.groups.lie, own_is (fun _ => rfl) h.dets, own_is (fun _ => rfl) h.rails, own_is (fun _ => rfl) h.buses⟩
theorem Bx.size {w W : World} {hd : Hd} {T : Tab} (h : Bx w hd T W) : w.heap.size + 1 < W.heap.size := (Array.getElem?_eq_some_iff.1 h.blk).1
theorem Bx.step {w W W' : World} {hd : Hd} {T : Tab} (h : Bx w hd T W) (hb : Below W.heap.size W W') : Bx w hd T W' :=
  ⟨h.bel.trans (hb.mono h.bel.size), (hb.block _ (by have := h.size; omega)).trans h.res, (hb.block _ h.size).trans h.blk, h.ph, h.cf, h.fl, h.groups.grown (grown_below hb none) (fun m e => by cases e), h.dets.below hb, h.rails.below hb, h.buses.below hb⟩
/-- A block that is neither of the two boxes nor another type's is written. -/
theorem Bx.cell {w W : World} {hd : Hd} {T : Tab} (h : Bx w hd T W) (i : Nat) : W.cell? ⟨w.heap.size + 1, i, none⟩ = (T.cells hd)[i]? := by
  rw [cell_of_row _ _ _ _ _ _ h.blk]; simp
theorem Bx.frozen {w W : World} {hd : Hd} {T : Tab} (h : Bx w hd T W) (i : Nat) : W.frozen? ⟨w.heap.size + 1, i, none⟩ = false := frozen_of_row _ _ _ _ _ h.blk
/-- The table's box is written; its lists stay. -/
theorem Bx.write {w W W' : World} {hd : Hd} {T U : Tab} (h : Bx w hd T W) (hg : W.grownBy W' (some (w.heap.size + 1))) (hb : W'.heap[w.heap.size + 1]? = some (.cells (U.cells hd).toArray 32 (0, 0)))
    (h1 : U.phases.length = 8) (h2 : U.conflict.length = 8) (h3 : U.flash.length = 8) (e1 : U.groups = T.groups) (e2 : U.dets = T.dets) (e3 : U.rails = T.rails) (e4 : U.buses = T.buses) : Bx w hd U W' := by
  refine ⟨h.bel.grown hg h.bel.size (fun k hk => by cases hk; omega), ?_, hb, h1, h2, h3, ?_, ?_, ?_, ?_⟩
  · exact (hg.block _ (by have := h.size; omega) (fun e => by simp at e)).trans h.res
  · rw [e1]
    exact h.groups.grown hg (fun m e => by cases e; exact ⟨_, _, h.blk, by decide, by decide⟩)
  · rw [e2]; exact own_kept h.dets hg (fun m hm e => by cases e; exact own_ne h.dets h.blk (by decide) hm)
  · rw [e3]; exact own_kept h.rails hg (fun m hm e => by cases e; exact own_ne h.rails h.blk (by decide) hm)
  · rw [e4]; exact own_kept h.buses hg (fun m hm e => by cases e; exact own_ne h.buses h.blk (by decide) hm)
/-- One number of the table. -/
theorem Bx.set {w W : World} {hd : Hd} {T U : Tab} (h : Bx w hd T W) (i : Nat) (v : Value) (hc : (T.cells hd).set i v = U.cells hd)
    (h1 : U.phases.length = 8) (h2 : U.conflict.length = 8) (h3 : U.flash.length = 8) (e1 : U.groups = T.groups) (e2 : U.dets = T.dets) (e3 : U.rails = T.rails) (e4 : U.buses = T.buses) : Bx w hd U (W.setCell ⟨w.heap.size + 1, i, none⟩ v) :=
  h.write (grown_set _ _ _ _) (by rw [heap_setCell_same _ _ _ _ _ _ h.blk, ← hc]; simp) h1 h2 h3 e1 e2 e3 e4
end Go.Proofs.YtjolhoilcibdfaaGreat.GenT
/- The table by numbers: what holds of it whatever the numbers; the box at the beginning and at the end. -/
namespace Go.Proofs.YtjolhoilcibdfaaGreat.GenT
open Go.ChangeShapes Go.WideShapes Go.ChangeAt Go.RowKit
open Tab Gath GenG Clone PlaceM CodeAt
open RefS (num num_range from_any)
set_option linter.unusedVariables false
set_option linter.unusedSimpArgs false
end Go.Proofs.YtjolhoilcibdfaaGreat.GenT
namespace Go.Proofs.YtjolhoilcibdfaaGreat.CodeAt
open Go
end Go.Proofs.YtjolhoilcibdfaaGreat.CodeAt
namespace Go.Proofs.YtjolhoilcibdfaaGreat.GenT
end Go.Proofs.YtjolhoilcibdfaaGreat.GenT
/- The statement's own small table (stage 9): good. -/
namespace Go.Proofs.YtjolhoilcibdfaaGreat.Good9
open Go.ChangeShapes Go.WideShapes Go.ChangeAt Go.RowKit
open Tab Gath GenG GenT PlaceM
open Clone (zPh)
open GenT (zTab)
set_option linter.unusedVariables false
set_option linter.unusedSimpArgs false
theorem wpList_store_mid {P : Program} {ops : Array Oper} {rest : List Oper} {op : Oper} {a : Act} {w w' : World} {Q : Exit → Act → World → Prop} (hw : Region.wanted op (yielded ops a.tmps) = true) (ty : TypeId) (x y : Operand) (ho : op.op = .store ty x y) (p : Addr) (cells : Array Value)
    (hx : a.eval x = .pointer (some p)) (hy : a.eval y = .agg cells) (hr : (Instr.storeAt ty (.pointer (some p)) (.agg cells)).run P w = .ok () w') (h : wpList P ops Q rest (a.put op.dst undef) w') : wpList P ops Q (op :: rest) a w :=
  BigFrame.wpList_want hw fun _ hK => by
    unfold Oper.wp execOp
    simp only [ho, hx, hy, Sem.run_bind, hr, Result.andThen_ok, Sem.run_pure]
    exact hK _ _ h
end Go.Proofs.YtjolhoilcibdfaaGreat.Good9
/- The chapter's examples hold (stage 9): the statement's own awake returns true. -/
namespace Go.Proofs.YtjolhoilcibdfaaGreat.Wa9
open Go.ChangeShapes Go.WideShapes Go.ChangeAt Go.RowKit
open Tab Clone PlaceM PlanM OnS ChkM ChkK
open May (chain infoT)
open Same (Eqs)
set_option linter.unusedVariables false
set_option linter.unusedSimpArgs false
theorem chk_z : chkC zTab = (8, 0) := by decide +kernel
theorem builtZ : Tryz.prog.built 32 [] = some (zTab.cells zHd).toArray := by kernel_rfl
section
variable {P : Program} {ops : Array Oper} {Q : Exit → Act → World → Prop}
theorem wpList_build0 {rest : List Oper} {o : Oper} {a : Act} {w : World} (hgd : o.guard = none) (t : TypeId) (ho : o.op = .build t #[]) (cells : Array Value) (hb : P.built t [] = some cells)
    (h : wpList P ops Q rest (a.put o.dst (.agg cells)) w) : wpList P ops Q (o :: rest) a w :=
  wpList_plain hgd fun _ hK => by
    unfold Oper.wp execOp
    have hb' : P.built t ((#[] : Array (Nat × Operand)).map fun (i, x) => (i, a.eval x)).toList = some cells := by simpa using hb
    simp only [ho, Sem.run_bind, run_build w t _ _ hb', Result.andThen_ok, Sem.run_pure]
    exact hK _ _ h
end
end Go.Proofs.YtjolhoilcibdfaaGreat.Wa9
/- The chapter's examples hold (stage 10): the statement's own awake returns true. -/
namespace Go.Proofs.YtjolhoilcibdfaaGreat.Wa10
open Go.ChangeShapes Go.WideShapes Go.ChangeAt Go.RowKit
open Tab Clone PlaceM PlanM OnS ChkM ChkK BdB
open May (chain infoT)
set_option linter.unusedVariables false
set_option linter.unusedSimpArgs false
def pA : Ph := ⟨true, 5, 0, 20, 20, 0, 10, 2, 0, 0, 0, false, false⟩
def tA : Tab := { zTab with phases := zTab.phases.set 0 pA }
theorem few_z : Few zTab := ⟨by decide, by intro g hg; simp [zTab] at hg⟩
theorem tA_is (w : World) : IsTab w zHd tA := ⟨rfl, rfl, rfl, ⟨[], rfl, RowOf.nil w, fun g hg => by simp at hg⟩, RowOf.nil w, RowOf.nil w, RowOf.nil w⟩
theorem all_z : allF zTab = (8, 0) := by unfold allF; rw [Wa9.chk_z]; rfl
theorem serve_A : ServeS.serveS tA 0 = 40 := by decide +kernel
theorem info24 : (Tryz.prog.info? 24).map (·.size) = some 13 := by kernel_rfl
theorem put_A : ((zTab.cells zHd).toArray.toList.take 0 ++ pA.cells.toArray.toList ++ (zTab.cells zHd).toArray.toList.drop (0 + pA.cells.toArray.size)).toArray = (tA.cells zHd).toArray := rfl
theorem builtA : Tryz.prog.built 24 [(0, .bool true), (1, I 5), (3, I 20), (4, I 20), (6, I 10), (7, I 2)] = some pA.cells.toArray := by kernel_rfl
set_option maxRecDepth 10000 in
set_option maxHeartbeats 4000000 in
theorem awake_any (w : World) : Calls Tryz.prog 24 #[] w fun e w' => e = .returned (.bool true) ∧ Below w.heap.size w w' := by
  have BZ := Lib.hid Wa9.builtZ
  have hz := (zero_of_info info31).1
  have hz2 := (zero_of_info BdN.infoBz).1
  have CZ : Hid (∀ W, Calls Tryz.prog 37 #[.agg (zTab.cells zHd).toArray] W fun e w' => e = .returned (.tuple #[.agg ((allB zTab).map I).toArray, .agg #[I 8, I 0]]) ∧ Below W.heap.size W w') := Lib.hid (fun W => by have := BdL.pall_any zTab zHd W (z_is W) few_z; rwa [all_z] at this)
  have SV : Hid (∀ W, Calls Tryz.prog 25 #[.agg (tA.cells zHd).toArray, .int .i64 0] W fun e w' => e = .returned (.int .i64 40) ∧ Below W.heap.size W w') := Lib.hid (fun W => by have := BdV.pserve_any tA zHd 0 W (tA_is W); rwa [serve_A] at this)
  have A0 := Lib.hid ((Below.refl w.heap.size w).alloc (Nat.le_refl _) (.cells (zTab.cells zHd).toArray 32))
  have K0 := Lib.hid (heap_alloc_new w (.cells (zTab.cells zHd).toArray 32))
  have RUN := Lib.hid (fun W h => (Row.run_storeAt_at (P := Tryz.prog) W w.heap.size 0 32 24 (zTab.cells zHd).toArray pA.cells.toArray h info24 (by decide) (Ph.one pA)).trans (by rw [put_A]))
  have PA := Lib.hid builtA
  have IA : Hid ((Tryz.prog.info? 32).map (·.size) = some (tA.cells zHd).length) := Lib.hid infoT
  have LA : (allB zTab).length = 12 := by decide +kernel
  have hbl : (((allB zTab).map I).toArray).size = 12 := by rw [List.size_toArray, List.length_map, LA]
  have HO : Hid (((allB zTab).map I).toArray.all (·.oneCell') = true) := Lib.hid (by simp [Value.oneCell'])
  generalize ((allB zTab).map I).toArray = bz at *
  generalize (zTab.cells zHd).toArray = Z at *
  generalize tA.cells zHd = c at *
  have ZBs : Hid ((bcells (zeros 8) (zeros 4)).size = 12) := Lib.hid rfl
  generalize bcells (zeros 8) (zeros 4) = zb at *
  have BZs := Lib.hid hbl
  clear LA PA hbl
  go_enter Tryz.func24, Tryz.ntmps24
  go_upto_region 2 with fail
  generalize w.alloc (.cells Z 32) = w1 at A0 K0 ⊢
  go_upto_region 3 with (refine Good9.wpList_store_mid (by rfl) 24 _ _ rfl ⟨w.heap.size, 0, none⟩ pA.cells.toArray rfl rfl (RUN.out _ K0.out) ?_)
  have K1 := Lib.hid (setRow_heap w1 w.heap.size _ c.toArray _ _ K0.out)
  have A1 := Lib.hid (Same.below_setRow A0.out (Nat.le_refl _) c.toArray)
  generalize w1.setRow w.heap.size c.toArray = w2 at K1 A1 ⊢
  clear K0 A0 RUN
  go_wp2_with (refine Wa9.wpList_build0 rfl 32 rfl Z BZ.out ?_)
  refine (CZ.out _).mono ?_
  rintro e u1 ⟨rfl, hb⟩
  have A2 := Lib.hid (A1.out.trans (hb.mono A1.out.size))
  have K2 := Lib.hid ((hb.block _ (Array.getElem?_eq_some_iff.1 K1.out).1).trans K1.out)
  have LE := Lib.hid ((Array.getElem?_eq_some_iff.1 K2.out).1)
  clear hb K1 A1 CZ
  have KB := Lib.hid (heap_alloc2_old u1 (.cells zb 65) (.cells #[I 0, I 0] 37))
  have KF := Lib.hid ((setRow_other ((u1.alloc (.cells zb 65)).alloc (.cells #[I 0, I 0] 37)) u1.heap.size (u1.heap.size + 1) bz (by omega)).trans (heap_alloc2_new u1 (.cells zb 65) (.cells #[I 0, I 0] 37)))
  have B4 : Hid (Below u1.heap.size u1 ((((u1.alloc (.cells zb 65)).alloc (.cells #[I 0, I 0] 37)).setRow u1.heap.size bz).setRow (u1.heap.size + 1) #[I 8, I 0])) := Lib.hid (Same.below_setRow (Same.below_setRow (((Below.refl _ _).alloc (Nat.le_refl _) _).alloc (by simp) _) (Nat.le_refl _) _) (by omega) _)
  have K8 := Lib.hid (setRow_heap _ (u1.heap.size + 1) _ #[I 8, I 0] _ _ KF.out)
  go_upto_region 4 with (first | (refine wpList_store_row rfl 65 _ _ rfl u1.heap.size bz rfl rfl 65 _ KB.out (by rw [BZs.out]; exact infoB) (by rw [ZBs.out, BZs.out]) HO.out ?_) | (refine wpList_store_row rfl 37 _ _ rfl (u1.heap.size + 1) #[I 8, I 0] rfl rfl 37 _ KF.out infoF rfl (by simp [Value.oneCell']) ?_))
  generalize (((u1.alloc (.cells zb 65)).alloc (.cells #[I 0, I 0] 37)).setRow u1.heap.size bz).setRow (u1.heap.size + 1) #[I 8, I 0] = u2 at B4 K8 ⊢
  have A3 := Lib.hid (A2.out.trans (B4.out.mono A2.out.size))
  have K3 := Lib.hid ((B4.out.block _ LE.out).trans K2.out)
  have LT : Hid (Lies u2 ⟨w.heap.size, 0, none⟩ c) := Lib.hid (by have := Row.lies_of_block K3.out; simpa using this)
  clear KB KF B4 K2 A2 hz hz2
  go_wp2_with (refine Row.wpList_load_g 32 _ rfl (by first | rfl | go_simp) ⟨w.heap.size, 0, none⟩ rfl c _ LT.out Tryz.underlying32 rfl IA.out ?_)
  refine (SV.out _).mono ?_
  rintro e u3 ⟨rfl, hb⟩
  have A4 := Lib.hid (A3.out.trans (hb.mono A3.out.size))
  have c8 : u3.cell? ⟨u1.heap.size + 1, 0, none⟩ = some (I 8) := by rw [cell_of_row _ _ _ _ _ _ ((hb.block _ (Array.getElem?_eq_some_iff.1 K8.out).1).trans K8.out)]; rfl
  clear hb K8 SV LT K3 A3
  go_wp2
  go_ret
  exact ⟨rfl, A4.out⟩
end Go.Proofs.YtjolhoilcibdfaaGreat.Wa10
/- The contract of the statement's own light: where it says yes, the table's lists are short. -/
namespace Go.Proofs.YtjolhoilcibdfaaGreat.Light10
open Go.ChangeShapes Go.WideShapes Go.ChangeAt Go.RowKit
open Tab Clone
open May (ret_bool chain take_succ' infoP infoG infoD infoR infoB infoT St)
set_option linter.unusedVariables false
set_option linter.unusedSimpArgs false
def Ok (gs : List Gr) (q : Nat) : Prop := ∀ g ∈ gs.take q, g.r0.length ≤ 12 ∧ g.r1.length ≤ 12
theorem Ok.step {gs : List Gr} {q : Nat} {v : Gr} (h : Ok gs q) (hv : gs[q]? = some v) (h0 : ¬ 12 < v.r0.length) (h1 : ¬ 12 < v.r1.length) : Ok gs (q + 1) := by
  intro g hg
  rw [take_succ' gs q v hv] at hg
  rcases List.mem_append.1 hg with hg | hg
  · exact h g hg
  · obtain rfl : g = v := by simpa using hg
    omega
def IsLight (T : Tab) : Prop := T.groups.length ≤ 8 ∧ T.dets.length ≤ 20 ∧ T.rails.length ≤ 8 ∧ T.buses.length ≤ 8 ∧ ∀ g ∈ T.groups, g.1.length ≤ 12 ∧ g.2.length ≤ 12
instance (T : Tab) : Decidable (IsLight T) := by unfold IsLight; infer_instance
set_option maxRecDepth 10000 in
set_option maxHeartbeats 4000000 in
theorem light_any (T : Tab) (h : Hd) (w : World) (ht : IsTab w h T) :
    Calls Tryz.prog 23 #[.agg (T.cells h).toArray] w fun e w' => e = .returned (.bool (decide (IsLight T))) ∧ Below w.heap.size w w' := by
  have C := Lib.hid (cells_ok ht)
  generalize (T.cells h).toArray = cs at C ⊢
  obtain ⟨gs, hgd, hgr⟩ := ht.groups
  have Hgr := Lib.hid hgr
  have Hgd := Lib.hid hgd
  have hsz := C.out.size
  have S0 := Lib.hid (St.box (cs := cs) ht)
  have Hgl := Lib.hid (show T.groups.length = gs.length by rw [← hgd, List.length_map])
  have Kg := hgr.1.len
  have Kd := ht.dets.len
  have Kr := ht.rails.len
  have Kb := ht.buses.len
  unfold maxLen at Kg Kd Kr Kb
  clear ht hgr hgd
  go_enter Tryz.func23, Tryz.ntmps23
  go_upto_region 1 with fail
  generalize w.alloc (.cells cs 32) = w1 at S0 ⊢
  clear hsz
  have q104 := S0.out.cell C.out.g
  have q113 := S0.out.cell C.out.d
  have q114 := S0.out.cell C.out.r
  have q115 := S0.out.cell C.out.b
  rw [Hgl.out] at q104
  by_cases h1 : 8 < gs.length
  · have NE : Hid (¬ IsLight T) := Lib.hid (fun e => by have := e.1; rw [Hgl.out] at this; omega)
    go_wp2
    go_ret
    exact ⟨ret_bool (decide_eq_false NE.out).symm, S0.out.bel⟩
  by_cases h2 : 20 < T.dets.length
  · have NE : Hid (¬ IsLight T) := Lib.hid (fun e => by have := e.2.1; omega)
    go_wp2
    go_ret
    exact ⟨ret_bool (decide_eq_false NE.out).symm, S0.out.bel⟩
  by_cases h3 : 8 < T.rails.length
  · have NE : Hid (¬ IsLight T) := Lib.hid (fun e => by have := e.2.2.1; omega)
    go_wp2
    go_ret
    exact ⟨ret_bool (decide_eq_false NE.out).symm, S0.out.bel⟩
  by_cases h4 : 8 < T.buses.length
  · have NE : Hid (¬ IsLight T) := Lib.hid (fun e => by have := e.2.2.2.1; omega)
    go_wp2
    go_ret
    exact ⟨ret_bool (decide_eq_false NE.out).symm, S0.out.bel⟩
  have SM : Hid ((∀ g ∈ gs, g.r0.length ≤ 12 ∧ g.r1.length ≤ 12) → IsLight T) := Lib.hid (fun hall => ⟨by rw [Hgl.out]; omega, by omega, by omega, by omega, fun g hg => by
    rw [← Hgd.out] at hg
    obtain ⟨v, hv, rfl⟩ := List.mem_map.1 hg
    exact hall v hv⟩)
  have SN : Hid (IsLight T → ∀ g ∈ gs, g.r0.length ≤ 12 ∧ g.r1.length ≤ 12) := Lib.hid (fun e g hg => e.2.2.2.2 g.data (by rw [← Hgd.out]; exact List.mem_map.2 ⟨g, hg, rfl⟩))
  go_wp2_with fail
  go_loopw [3] (fun i wr => ∃ q : Nat, q ≤ gs.length ∧ i = .int .i64 q ∧ Ok gs q ∧ wr = w1) (fun i _ => gs.length - (intOf i).toNat)
  case atStart => exact ⟨0, by omega, rfl, (fun g hg => by simp at hg), rfl⟩
  case round =>
    obtain ⟨q, hq, rfl, hall, rfl⟩ := hrel
    have Hall := Lib.hid hall
    clear hall
    by_cases hlt : q < gs.length
    · have hv := List.getElem?_eq_getElem hlt
      generalize gs[q] = v at hv
      obtain ⟨x, hx, hc⟩ := (Hgr.out.1.below S0.out.bel).at hv
      have hok := Hgr.out.2 v (List.mem_of_getElem? hv)
      have HV := Lib.hid hv
      have K0 := hok.1.len
      have K1 := hok.2.len
      obtain ⟨l0, l1, ⟨a0, cap0⟩, ⟨a1, cap1⟩⟩ := v
      unfold maxLen at K0 K1
      have c104 : wr.cell? ⟨w.heap.size, 104, none⟩ = some (.slice (some x) gs.length h.g.cap) := by have := q104; simp only [Sl.val, hx] at this; exact this
      have c0 := hc 0 _ rfl
      have c1 := hc 1 _ rfl
      rw [add_zero] at c0
      rw [add_one] at c1
      clear hv hc hok hx q104
      by_cases h5 : 12 < l0.length
      · have NE : Hid (¬ IsLight T) := Lib.hid (fun e => by have := (SN.out e _ (List.mem_of_getElem? HV.out)).1; simp only at this; omega)
        go_wp2
        go_ret
        exact ⟨ret_bool (decide_eq_false NE.out).symm, S0.out.bel⟩
      by_cases h6 : 12 < l1.length
      · have NE : Hid (¬ IsLight T) := Lib.hid (fun e => by have := (SN.out e _ (List.mem_of_getElem? HV.out)).2; simp only at this; omega)
        go_wp2
        go_ret
        exact ⟨ret_bool (decide_eq_false NE.out).symm, S0.out.bel⟩
      go_wp2
      go_roundw
      case rel => exact ⟨q + 1, by omega, by go_num, Hall.out.step HV.out h5 h6, trivial⟩
      case measure => simp [intOf]; omega
    · have SS := Lib.hid (SM.out (fun g hg => Hall.out g (by rw [List.take_of_length_le (by omega)]; exact hg)))
      clear Hall
      go_wp2
      go_ret
      exact ⟨ret_bool (decide_eq_true SS.out).symm, S0.out.bel⟩
end Go.Proofs.YtjolhoilcibdfaaGreat.Light10
/- A table as an argument: every cell of it, and what lies under its lists. -/
namespace Go.Proofs.YtjolhoilcibdfaaGreat.TabArg
open Go Go.ChangeShapes Go.WideShapes Go.Deep Flat Tab

theorem All2.rep {α β : Type} {R : α → β → Prop} {r : List α} : ∀ (n : Nat) {cs : List β}, All2 R (List.replicate n r).flatten cs → ∃ l : List (List β), l.length = n ∧ cs = l.flatten ∧ ∀ c ∈ l, All2 R r c
  | 0, cs, h => ⟨[], rfl, by cases cs with | nil => rfl | cons _ _ => exact h.elim, by simp⟩
  | n + 1, cs, h => by
    rw [List.replicate_succ, List.flatten_cons] at h
    obtain ⟨h1, h2⟩ := h.split
    obtain ⟨l, hl, he, hr⟩ := All2.rep n h2
    refine ⟨cs.take r.length :: l, by simp [hl], ?_, ?_⟩
    · rw [List.flatten_cons, ← he, List.take_append_drop]
    · intro c hc
      rcases List.mem_cons.1 hc with rfl | hc
      · exact h1
      · exact hr c hc
theorem map_choose {α β : Type} {f : α → List β} {p : α → Prop} : ∀ {l : List (List β)}, (∀ c ∈ l, ∃ v, c = f v ∧ p v) → ∃ m : List α, m.length = l.length ∧ l.flatten = m.flatMap f ∧ ∀ v ∈ m, p v
  | [], _ => ⟨[], rfl, rfl, by simp⟩
  | c :: l, h => by
    obtain ⟨v, hv, hp⟩ := h c (by simp)
    obtain ⟨m, h1, h2, h3⟩ := map_choose (l := l) (fun c hc => h c (by simp [hc]))
    exact ⟨v :: m, by simp [h1], by rw [List.flatten_cons, h2, hv, List.flatMap_cons], by
      intro u hu
      rcases List.mem_cons.1 hu with rfl | hu
      · exact hp
      · exact h3 u hu⟩
section
variable {H : Type} {enc : TypeId × Value → H} {P : Program} {w : World} {base : Nat} {spare : Nat → Bool} {held : Bool}
abbrev Tr (enc : TypeId × Value → H) (P : Program) (w : World) (base : Nat) (spare : Nat → Bool) (held : Bool) (t : TypeId) (v : Value) : Prop := ∃ n y, DataW.trod enc P w base spare held n t [v] = some y
theorem tr_int {t : TypeId} {v : Value} (hu : P.underlying t = some (.int .i64)) (h : Tr enc P w base spare held t v) : ∃ z, v = I z := by
  obtain ⟨n, y, h⟩ := h
  obtain ⟨z, hz, _⟩ := DataW.trod_int hu h
  exact ⟨z, by simpa using hz⟩
theorem tr_bool {t : TypeId} {v : Value} (hu : P.underlying t = some .bool) (h : Tr enc P w base spare held t v) : ∃ b, v = .bool b := by
  obtain ⟨n, y, h⟩ := h
  obtain ⟨z, hz, _⟩ := DataW.trod_bool hu h
  exact ⟨z, by simpa using hz⟩
theorem tr_flt {t : TypeId} {v : Value} (hu : P.underlying t = some (.float .f64)) (h : Tr enc P w base spare held t v) : ∃ b, v = F b := by
  obtain ⟨n, y, h⟩ := h
  cases n with
  | zero => simp [DataW.trod] at h
  | succ n =>
    unfold DataW.trod at h
    rw [hu] at h
    split at h <;> simp_all
theorem tr_ints {t : TypeId} (hu : P.underlying t = some (.int .i64)) : ∀ (n : Nat) {cs : List Value}, All2 (Tr enc P w base spare held) (List.replicate n t) cs → ∃ l : List Int, l.length = n ∧ cs = l.map I
  | 0, cs, h => ⟨[], rfl, by cases cs with | nil => rfl | cons _ _ => exact h.elim⟩
  | n + 1, [], h => h.elim
  | n + 1, c :: cs, h => by
    obtain ⟨z, rfl⟩ := tr_int hu h.1
    obtain ⟨l, hl, rfl⟩ := tr_ints hu n h.2
    exact ⟨z :: l, by simp [hl], rfl⟩
/-- A slice whose elements each read as one of ours. -/
theorem tr_row {α : Type} [Inhabited α] {t e : TypeId} {k : Nat} {f : α → List Value} {p : α → Prop} {v : Value} (ht : P.underlying t = some (.slice e)) (hC : P.cellsOf e = k)
    (hel : ∀ n cs x, DataW.trod enc P w base spare held n e cs = some x → ∃ v, cs = f v ∧ p v) (h : Tr enc P w base spare held t v) :
    ∃ (s : Sl) (l : List α), v = s.val l.length ∧ RowOf k f w s l ∧ ∀ u ∈ l, p u := by
  obtain ⟨n, y, h⟩ := h
  rcases Deep.open_slice ht h with ⟨h0, _⟩ | ⟨a, len, cap, m, n', D, Pl, hcs, _, hl, hm, hmm, _, hx⟩
  · simp only [List.cons.injEq, and_true] at h0
    exact ⟨⟨none, 0⟩, [], h0, RowOf.nil w, by simp⟩
  · simp only [List.cons.injEq, and_true] at hcs
    have hlm : len ≤ m := by rw [hmm]; split <;> omega
    have each : ∀ i, ∃ u : α, i < len → Lies w (a.add (i * k)) (f u) ∧ p u := by
      intro i
      by_cases hi : i < len
      · obtain ⟨cs', h1, h2⟩ := hx i (by omega)
        rw [hC] at h1
        obtain ⟨_, hlen, hcell⟩ := World.cells?_some h1
        obtain ⟨u, rfl, hp⟩ := hel _ _ _ h2
        refine ⟨u, fun _ => ⟨fun j v hv => ?_, hp⟩⟩
        have hj : j < k := by rw [← hlen]; exact (List.getElem?_eq_some_iff.1 hv).1
        rw [hcell j hj, hv]
      · exact ⟨default, fun h => absurd h hi⟩
    refine ⟨⟨some a, cap⟩, (List.range len).map fun i => Classical.choose (each i), ?_, .inr ⟨a, rfl, by simpa using hl, hm, ?_⟩, ?_⟩
    · rw [hcs]; simp
    · intro i u hu
      rw [List.getElem?_map] at hu
      by_cases hi : i < len
      · rw [List.getElem?_range hi] at hu
        obtain rfl := Option.some.inj hu
        exact (Classical.choose_spec (each i) hi).1
      · simp [List.getElem?_eq_none (l := List.range len) (i := i) (by simpa using hi)] at hu
    · intro u hu
      obtain ⟨i, hi, rfl⟩ := List.mem_map.1 hu
      exact (Classical.choose_spec (each i) (List.mem_range.1 hi)).2
instance : Inhabited Gr := ⟨⟨[], [], ⟨none, 0⟩, ⟨none, 0⟩⟩⟩
abbrev B : TypeId := 4
abbrev N : TypeId := 3
abbrev X : TypeId := 43
abbrev phT : List TypeId := [B, N, N, N, N, N, N, N, N, N, N, B, B]
theorem flD : flat Tryz.prog 4 45 = some [N, X, X, X, X, N, N] := by kernel_rfl
theorem flR : flat Tryz.prog 4 47 = some (List.replicate 11 N) := by kernel_rfl
theorem flB : flat Tryz.prog 4 49 = some (List.replicate 2 N) := by kernel_rfl
theorem flG : flat Tryz.prog 4 41 = some (List.replicate 2 22) := by kernel_rfl
abbrev tabT : List TypeId := (List.replicate 8 phT).flatten ++ (26 :: (List.replicate 8 N ++ (28 :: 29 :: 30 :: (List.replicate 5 N ++ (List.replicate 8 N ++ List.replicate 2 N)))))
theorem flT : flat Tryz.prog 5 32 = some tabT := by kernel_rfl
theorem ph_el : ∀ {cs : List Value}, All2 (Tr enc Tryz.prog w base spare held) phT cs → ∃ p : Ph, cs = p.cells
  | [_, _, _, _, _, _, _, _, _, _, _, _, _], ⟨h0, h1, h2, h3, h4, h5, h6, h7, h8, h9, h10, h11, h12, _⟩ => by
    obtain ⟨v0, rfl⟩ := tr_bool Tryz.underlying4 h0
    obtain ⟨v1, rfl⟩ := tr_int Tryz.underlying3 h1
    obtain ⟨v2, rfl⟩ := tr_int Tryz.underlying3 h2
    obtain ⟨v3, rfl⟩ := tr_int Tryz.underlying3 h3
    obtain ⟨v4, rfl⟩ := tr_int Tryz.underlying3 h4
    obtain ⟨v5, rfl⟩ := tr_int Tryz.underlying3 h5
    obtain ⟨v6, rfl⟩ := tr_int Tryz.underlying3 h6
    obtain ⟨v7, rfl⟩ := tr_int Tryz.underlying3 h7
    obtain ⟨v8, rfl⟩ := tr_int Tryz.underlying3 h8
    obtain ⟨v9, rfl⟩ := tr_int Tryz.underlying3 h9
    obtain ⟨v10, rfl⟩ := tr_int Tryz.underlying3 h10
    obtain ⟨v11, rfl⟩ := tr_bool Tryz.underlying4 h11
    obtain ⟨v12, rfl⟩ := tr_bool Tryz.underlying4 h12
    exact ⟨⟨v0, v1, v2, v3, v4, v5, v6, v7, v8, v9, v10, v11, v12⟩, rfl⟩
theorem det_el : ∀ {cs : List Value}, All2 (Tr enc Tryz.prog w base spare held) [N, X, X, X, X, N, N] cs → ∃ d : Det, cs = d.cells
  | [_, _, _, _, _, _, _], ⟨h0, h1, h2, h3, h4, h5, h6, _⟩ => by
    obtain ⟨v0, rfl⟩ := tr_int Tryz.underlying3 h0
    obtain ⟨v1, rfl⟩ := tr_flt Tryz.underlying43 h1
    obtain ⟨v2, rfl⟩ := tr_flt Tryz.underlying43 h2
    obtain ⟨v3, rfl⟩ := tr_flt Tryz.underlying43 h3
    obtain ⟨v4, rfl⟩ := tr_flt Tryz.underlying43 h4
    obtain ⟨v5, rfl⟩ := tr_int Tryz.underlying3 h5
    obtain ⟨v6, rfl⟩ := tr_int Tryz.underlying3 h6
    exact ⟨⟨v0, v1, v2, v3, v4, v5, v6⟩, rfl⟩
theorem rl_el {cs : List Value} (h : All2 (Tr enc Tryz.prog w base spare held) (List.replicate 11 N) cs) : ∃ r : Rl, cs = r.cells := by
  obtain ⟨l, hl, rfl⟩ := tr_ints Tryz.underlying3 11 h
  match l, hl with
  | [a, b, c, d, e, f, g, h, i, j, k], _ => exact ⟨⟨a, b, c, d, e, f, g, h, i, j, k⟩, rfl⟩
theorem bs_el {cs : List Value} (h : All2 (Tr enc Tryz.prog w base spare held) (List.replicate 2 N) cs) : ∃ b : Bs, cs = b.cells := by
  obtain ⟨l, hl, rfl⟩ := tr_ints Tryz.underlying3 2 h
  match l, hl with
  | [a, b], _ => exact ⟨⟨a, b⟩, rfl⟩
theorem int_row {v : Value} (h : Tr enc Tryz.prog w base spare held 22 v) : ∃ (s : Sl) (l : List Int), v = s.val l.length ∧ IntRow w s l := by
  obtain ⟨s, l, h1, h2, _⟩ := tr_row (α := Int) (k := 1) (f := fun n => [I n]) (p := fun _ => True) Tryz.underlying22 (by kernel_rfl) (fun n cs x hx => by
    obtain ⟨z, hz, _⟩ := DataW.trod_int Tryz.underlying3 hx
    exact ⟨z, hz, trivial⟩) h
  exact ⟨s, l, h1, h2⟩
theorem gr_el : ∀ {cs : List Value}, All2 (Tr enc Tryz.prog w base spare held) (List.replicate 2 22) cs → ∃ g : Gr, cs = g.cells ∧ g.ok w
  | [_, _], ⟨h0, h1, _⟩ => by
    obtain ⟨s0, r0, rfl, k0⟩ := int_row h0
    obtain ⟨s1, r1, rfl, k1⟩ := int_row h1
    exact ⟨⟨r0, r1, s0, s1⟩, rfl, k0, k1⟩
theorem open_tab {n : Nat} {cs : List Value} {x : DataW H × List MemPlace} (h : DataW.trod enc Tryz.prog w base spare held n 32 cs = some x) : ∃ (hd : Hd) (T : Tab), cs = T.cells hd ∧ IsTab w hd T := by
  have hf := trod_flat 5 _ _ flT n cs x h
  clear h
  obtain ⟨h1, h2⟩ := All2.split hf
  have e0 := List.take_append_drop (List.replicate 8 phT).flatten.length cs
  rw [← e0]
  generalize cs.take (List.replicate 8 phT).flatten.length = ca at h1
  generalize cs.drop (List.replicate 8 phT).flatten.length = cb at h2
  obtain ⟨L, hL, rfl, hall⟩ := All2.rep 8 h1
  obtain ⟨ps, hp1, hp2, _⟩ := map_choose (f := Ph.cells) (p := fun _ => True) (l := L) (fun c hc => (ph_el (hall c hc)).imp fun v hv => ⟨hv, trivial⟩)
  cases cb with
  | nil => exact h2.elim
  | cons vg cb =>
  obtain ⟨hg, h3⟩ := h2
  obtain ⟨h4, h5⟩ := All2.split h3
  have e1 := List.take_append_drop (List.replicate 8 N).length cb
  rw [← e1]
  generalize cb.take (List.replicate 8 N).length = cc at h4
  generalize cb.drop (List.replicate 8 N).length = cd at h5
  obtain ⟨cf, hcf, rfl⟩ := tr_ints Tryz.underlying3 8 h4
  match cd, h5 with
  | vd :: vr :: vb :: ce, ⟨hd, hr, hb, h6⟩ =>
  obtain ⟨h7, h8⟩ := All2.split h6
  have e2 := List.take_append_drop (List.replicate 5 N).length ce
  rw [← e2]
  generalize ce.take (List.replicate 5 N).length = cg at h7
  generalize ce.drop (List.replicate 5 N).length = ch at h8
  obtain ⟨five, h5l, rfl⟩ := tr_ints Tryz.underlying3 5 h7
  obtain ⟨h9, h10⟩ := All2.split h8
  have e3 := List.take_append_drop (List.replicate 8 N).length ch
  rw [← e3]
  generalize ch.take (List.replicate 8 N).length = ci at h9
  generalize ch.drop (List.replicate 8 N).length = cj at h10
  obtain ⟨fl, hfl, rfl⟩ := tr_ints Tryz.underlying3 8 h9
  obtain ⟨two, h2l, rfl⟩ := tr_ints Tryz.underlying3 2 h10
  obtain ⟨sg, gs, rfl, kg, kgo⟩ := tr_row (α := Gr) (k := 2) (f := Gr.cells) (p := fun g => g.ok w) Tryz.underlying26 (by kernel_rfl) (fun n cs x hx => gr_el (trod_flat 4 _ _ flG n cs x hx)) hg
  obtain ⟨sd, ds, rfl, kd, _⟩ := tr_row (α := Det) (k := 7) (f := Det.cells) (p := fun _ => True) Tryz.underlying28 (by kernel_rfl) (fun n cs x hx => (det_el (trod_flat 4 _ _ flD n cs x hx)).imp fun v hv => ⟨hv, trivial⟩) hd
  obtain ⟨sr, rs, rfl, kr, _⟩ := tr_row (α := Rl) (k := 11) (f := Rl.cells) (p := fun _ => True) Tryz.underlying29 (by kernel_rfl) (fun n cs x hx => (rl_el (trod_flat 4 _ _ flR n cs x hx)).imp fun v hv => ⟨hv, trivial⟩) hr
  obtain ⟨sb, bs, rfl, kb, _⟩ := tr_row (α := Bs) (k := 2) (f := Bs.cells) (p := fun _ => True) Tryz.underlying30 (by kernel_rfl) (fun n cs x hx => (bs_el (trod_flat 4 _ _ flB n cs x hx)).imp fun v hv => ⟨hv, trivial⟩) hb
  match five, h5l, two, h2l with
  | [a, b, c, d, e], _, [f, g], _ =>
  refine ⟨⟨sg, sd, sr, sb⟩, ⟨ps, gs.map Gr.data, cf, ds, rs, bs, a, b, c, d, e, fl, f, g⟩, ?_, ⟨by rw [hp1, hL], hcf, hfl, ⟨gs, rfl, kg, kgo⟩, kd, kr, kb⟩⟩
  rw [hp2]
  simp only [Tab.cells, List.length_map, List.cons_append, List.nil_append, List.map_cons, List.map_nil]
end
end Go.Proofs.YtjolhoilcibdfaaGreat.TabArg
/- The contracts of the document's own Clash and exit. -/
namespace Go.Proofs.YtjolhoilcibdfaaGreat.RkB
open Go.ChangeShapes Go.WideShapes Go.ChangeAt Go.RowKit
open Tab PlaceM PlanM OnS ChkM ChkI
open RefS (rlist_any rhas_any row_of)
open May (ret_bool infoT infoP)
set_option linter.unusedVariables false
set_option linter.unusedSimpArgs false
theorem getD_mem {L : List Int} {q : Nat} (h : q < L.length) : L.getD q 0 ∈ L := by rw [List.getD_eq_getElem?_getD, List.getElem?_eq_getElem h]; exact List.getElem_mem h
theorem any_no {f : Int → Bool} {L : List Int} (h : ∀ j, j < L.length → f (L.getD j 0) = false) : L.any f = false := by
  rw [List.any_eq_false]
  intro z hz
  obtain ⟨i, hi, rfl⟩ := List.getElem_of_mem hz
  have := h i hi
  rw [List.getD_eq_getElem?_getD, List.getElem?_eq_getElem hi] at this
  simpa using this
def pairR (T : Tab) (p q : Int) : Bool := SetM.has (cfAt T p) q || SetM.has (cfAt T q) p
set_option maxRecDepth 100000 in
set_option maxHeartbeats 8000000 in
theorem rclash_any (T : Tab) (h : Hd) (sa sb : Int) (w : World) (ht : IsTab w h T) :
    Calls Tryz.prog 94 #[.agg (T.cells h).toArray, .int .i64 sa, .int .i64 sb] w fun e w' => e = .returned (.bool (clashR T sa sb)) ∧ Below w.heap.size w w' := by
  have hsz := (cells_ok ht).size
  have BX0 := Lib.hid (bxd_new ht)
  have A0 : Hid (Below w.heap.size w (w.alloc (.cells (T.cells h).toArray 32))) := Lib.hid ((Below.refl _ _).alloc (Nat.le_refl _) _)
  obtain ⟨x, hx⟩ : ∃ x, x = clashR T sa sb := ⟨_, rfl⟩
  rw [← hx]
  have HX : Hid (x = (SetM.list sa).any fun p => (SetM.list sb).any (pairR T p)) := Lib.hid hx
  have FR : Hid (∀ p q, pairR T p q = (SetM.has (cfAt T p) q || SetM.has (cfAt T q) p)) := Lib.hid (fun p q => rfl)
  have RA := Lib.hid (rlist_any sa)
  have RB := Lib.hid (rlist_any sb)
  have BDA := Lib.hid (fun q (hq : q ∈ SetM.list sa) => SetM.list_bd _ q hq)
  have BDB := Lib.hid (fun q (hq : q ∈ SetM.list sb) => SetM.list_bd _ q hq)
  have hla := SetM.list_len sa
  have hlb := SetM.list_len sb
  generalize SetM.list sa = La at *
  generalize SetM.list sb = Lb at *
  clear ht hx
  generalize T.cells h = c at *
  go_enter Tryz.func94, Tryz.ntmps94
  go_upto_region 1 with fail
  generalize w.alloc (.cells c.toArray 32) = u at A0 BX0 ⊢
  clear hsz
  go_wp2_with fail
  refine (RA.out _).mono ?_
  rintro e u1 ⟨v, rfl, hown, hb⟩
  obtain ⟨aa, acap, rfl, hrow⟩ := row_of hown
  have HROW := Lib.hid hrow
  have B0 : Hid (Below w.heap.size w u1) := Lib.hid (A0.out.trans (hb.mono A0.out.size))
  have BX1 := Lib.hid (BX0.out.below hb)
  clear hown hrow hb A0 BX0
  go_wp2_with fail
  go_loopw [14] (fun i wr => ∃ q : Nat, q ≤ La.length ∧ i = .int .i64 q ∧ (∀ j, j < q → Lb.any (pairR T (La.getD j 0)) = false) ∧ Below u1.heap.size u1 wr) (fun i _ => La.length - (intOf i).toNat)
  case atStart => exact ⟨0, by omega, rfl, (fun j h => by omega), Below.refl _ _⟩
  case round =>
    obtain ⟨q, hq, rfl, hall, hB⟩ := hrel
    have HA := Lib.hid hall
    have HB := Lib.hid hB
    have BW : Hid (Below w.heap.size w wr) := Lib.hid (B0.out.trans (hB.mono B0.out.size))
    have BX2 := Lib.hid (BX1.out.below hB)
    have HROWA := Lib.hid (HROW.out.below hB)
    clear hall hB
    by_cases hlt : q < La.length
    · obtain ⟨y, rfl, hcells⟩ := HROWA.out.cells hlt
      have cq := hcells q hlt
      have hmem := getD_mem hlt
      have hbd := BDA.out _ hmem
      generalize hz : La.getD q 0 = z at *
      have HZ := Lib.hid hz
      have HM := Lib.hid hmem
      clear hcells hz hmem
      obtain ⟨p, rfl⟩ := Int.eq_ofNat_of_zero_le hbd.1
      have hp8 : ((p : Nat) : Int) < 8 := hbd.2
      go_wp2_with fail
      refine (RB.out _).mono ?_
      rintro e u2 ⟨v, rfl, hown, hb⟩
      obtain ⟨ab, bcap, rfl, hrow⟩ := row_of hown
      have HROWB := Lib.hid hrow
      have HB2 := Lib.hid (HB.out.trans (hb.mono HB.out.size))
      have BW2 : Hid (Below w.heap.size w u2) := Lib.hid (BW.out.trans (hb.mono BW.out.size))
      have BX := Lib.hid (BX2.out.below hb)
      clear hown hrow hb cq BX2 BW HB
      go_wp2_with fail
      go_loopw [21] (fun i wk => ∃ r : Nat, r ≤ Lb.length ∧ i = .int .i64 r ∧ (∀ j, j < r → pairR T p (Lb.getD j 0) = false) ∧ wk = u2) (fun i _ => Lb.length - (intOf i).toNat)
      case atStart => exact ⟨0, by omega, rfl, (fun j h => by omega), rfl⟩
      case round =>
        obtain ⟨r, hr, rfl, hall2, rfl⟩ := hrel
        rename World => wk
        have HA2 := Lib.hid hall2
        clear hall2
        by_cases hlt2 : r < Lb.length
        · obtain ⟨y2, rfl, hcells⟩ := HROWB.out.cells hlt2
          have cr := hcells r hlt2
          have hmem := getD_mem hlt2
          have hbd2 := BDB.out _ hmem
          generalize hz : Lb.getD r 0 = z2 at *
          have HZ2 := Lib.hid hz
          have HM2 := Lib.hid hmem
          clear hcells hz hmem
          obtain ⟨j, rfl⟩ := Int.eq_ofNat_of_zero_le hbd2.1
          have hj8 : ((j : Nat) : Int) < 8 := hbd2.2
          have cp := BX.out.cf p (by omega) (by omega)
          have cj := BX.out.cf j (by omega) (by omega)
          rw [Int.toNat_natCast] at cp cj
          have FQ := Lib.hid (FR.out p j)
          have NEXT : Hid (pairR T p j = false → ∀ i, i < r + 1 → pairR T p (Lb.getD i 0) = false) := Lib.hid (fun e i hi => by
            by_cases h1 : i = r
            · subst h1; rw [HZ2.out]; exact e
            · exact HA2.out i (by omega))
          have STOP : Hid (pairR T p j = true → true = x) := Lib.hid (fun e => by
            rw [HX.out]; symm; rw [List.any_eq_true]; exact ⟨_, HM.out, List.any_eq_true.2 ⟨_, HM2.out, e⟩⟩)
          obtain ⟨ha, hha⟩ : ∃ z, SetM.has (cfAt T p) j = z := ⟨_, rfl⟩
          obtain ⟨hb, hhb⟩ : ∃ z, SetM.has (cfAt T j) p = z := ⟨_, rfl⟩
          rw [hha, hhb] at FQ
          have HHA := Lib.hid hha
          have HHB := Lib.hid hhb
          clear hha hhb
          go_wp2_with fail
          refine (rhas_any _ _ _).mono ?_
          rintro e w' ⟨rfl, rfl⟩
          rw [HHA.out]
          cases ha with
          | true =>
            have SX := Lib.hid (STOP.out (by rw [FQ.out]; rfl))
            go_wp2
            go_ret
            exact ⟨ret_bool SX.out, BW2.out⟩
          | false =>
            go_wp2_with fail
            refine (rhas_any _ _ _).mono ?_
            rintro e w' ⟨rfl, rfl⟩
            rw [HHB.out]
            cases hb with
            | true =>
              have SX := Lib.hid (STOP.out (by rw [FQ.out]; rfl))
              go_wp2
              go_ret
              exact ⟨ret_bool SX.out, BW2.out⟩
            | false =>
              have NX := Lib.hid (NEXT.out (by rw [FQ.out]; rfl))
              go_wp2
              go_roundw
              case rel => exact ⟨r + 1, by omega, by go_num, NX.out, trivial⟩
              case measure => simp [intOf]; omega
        · have NX : Hid (∀ i, i < q + 1 → Lb.any (pairR T (La.getD i 0)) = false) := Lib.hid (fun i hi => by
            by_cases h1 : i = q
            · subst h1; rw [HZ.out]; exact any_no (fun j hj => HA2.out j (by omega))
            · exact HA.out i (by omega))
          go_wp2
          go_roundw
          case rel => exact ⟨q + 1, by omega, by go_num, NX.out, HB2.out⟩
          case measure => simp [intOf]; omega
    · have SX : Hid (false = x) := Lib.hid (by
        rw [HX.out, any_no (f := fun p => Lb.any (pairR T p)) (fun j hj => HA.out j (by omega))])
      go_wp2
      go_ret
      exact ⟨ret_bool SX.out, BW.out⟩
theorem pairs_yes {T : Tab} {L : List Int} (h : ∀ i, i < L.length → ∀ k, k < i → beside T (L.getD i 0) (L.getD k 0) = true) : pairs T L = true := by
  unfold pairs
  rw [List.all_eq_true]
  intro i hi
  rw [List.all_eq_true]
  intro k hk
  exact h i (List.mem_range.1 hi) k (List.mem_range.1 hk)
theorem pairs_no {T : Tab} {L : List Int} {i k : Nat} (hi : i < L.length) (hk : k < i) (h : beside T (L.getD i 0) (L.getD k 0) = false) : pairs T L = false := by
  unfold pairs
  rw [List.all_eq_false]
  refine ⟨i, List.mem_range.2 hi, ?_⟩
  rw [Bool.not_eq_true, List.all_eq_false]
  exact ⟨k, List.mem_range.2 hk, by simp only [h]; simp⟩
set_option maxRecDepth 100000 in
set_option maxHeartbeats 8000000 in
theorem exit_any (T : Tab) (h : Hd) (s : Int) (w : World) (ht : IsTab w h T) (sm : Few T) :
    Calls Tryz.prog 93 #[.agg (T.cells h).toArray, .int .i64 s] w fun e w' => e = .returned (.bool (exitR T s)) ∧ Below w.heap.size w w' := by
  have hsz := (cells_ok ht).size
  have IA : Hid ((Tryz.prog.info? 32).map (·.size) = some (T.cells h).length) := Lib.hid (by rw [List.size_toArray] at hsz; rw [hsz]; exact infoT)
  have BS : Hid (∀ (p q : Int) W, Below w.heap.size w W → Calls Tryz.prog 42 #[.agg (T.cells h).toArray, .int .i64 p, .int .i64 q] W fun e w' => e = .returned (.bool (beside T p q)) ∧ Below W.heap.size W w') := Lib.hid (fun p q W hb => Where.beside_any T h p q W (ht.below hb) sm)
  have LT0 := Lib.hid (Row.lies_new w (T.cells h).toArray 32)
  have A0 : Hid (Below w.heap.size w (w.alloc (.cells (T.cells h).toArray 32))) := Lib.hid ((Below.refl _ _).alloc (Nat.le_refl _) _)
  obtain ⟨x, hx⟩ : ∃ x, x = exitR T s := ⟨_, rfl⟩
  rw [← hx]
  have HX : Hid (x = (pairs T (SetM.list s) && decide (0 < (SetM.list s).length))) := Lib.hid hx
  have PY := Lib.hid (fun (h : ∀ i, i < (SetM.list s).length → ∀ k, k < i → beside T ((SetM.list s).getD i 0) ((SetM.list s).getD k 0) = true) => pairs_yes h)
  have PN := Lib.hid (fun (i k : Nat) (hi : i < (SetM.list s).length) (hk : k < i) (h : beside T ((SetM.list s).getD i 0) ((SetM.list s).getD k 0) = false) => pairs_no hi hk h)
  have RA := Lib.hid (rlist_any s)
  have hla := SetM.list_len s
  generalize SetM.list s = L at *
  clear ht hx
  generalize T.cells h = c at *
  go_enter Tryz.func93, Tryz.ntmps93
  go_upto_region 1 with fail
  generalize w.alloc (.cells c.toArray 32) = u at A0 LT0 ⊢
  clear hsz
  go_wp2_with fail
  refine (RA.out _).mono ?_
  rintro e u1 ⟨v, rfl, hown, hb⟩
  obtain ⟨aa, acap, rfl, hrow⟩ := row_of hown
  have HROW := Lib.hid hrow
  have B0 : Hid (Below w.heap.size w u1) := Lib.hid (A0.out.trans (hb.mono A0.out.size))
  have LT1 := Lib.hid (LT0.out.below hb)
  clear hown hrow hb A0 LT0
  go_wp2_with fail
  go_loopw [6] (fun i wr => ∃ q : Nat, q ≤ L.length ∧ i = .int .i64 q ∧ (∀ i, i < q → ∀ k, k < i → beside T (L.getD i 0) (L.getD k 0) = true) ∧ Below u1.heap.size u1 wr) (fun i _ => L.length - (intOf i).toNat)
  case atStart => exact ⟨0, by omega, rfl, (fun j h => by omega), Below.refl _ _⟩
  case round =>
    obtain ⟨q, hq, rfl, hall, hB⟩ := hrel
    have HA := Lib.hid hall
    have HB := Lib.hid hB
    clear hall hB
    by_cases hlt : q < L.length
    · go_wp2_with fail
      go_loopw [7] (fun i wk => ∃ r : Nat, r ≤ q ∧ i = .int .i64 r ∧ (∀ k, k < r → beside T (L.getD q 0) (L.getD k 0) = true) ∧ Below wr.heap.size wr wk) (fun i _ => q - (intOf i).toNat)
      case atStart => exact ⟨0, by omega, rfl, (fun j h => by omega), Below.refl _ _⟩
      case round =>
        obtain ⟨r, hr, rfl, hall2, hB2⟩ := hrel
        rename World => wk
        have HA2 := Lib.hid hall2
        have HB2 := Lib.hid hB2
        have HBK := Lib.hid (HB.out.trans (hB2.mono HB.out.size))
        clear hall2 hB2
        by_cases hlt2 : r < q
        · have BW : Hid (Below w.heap.size w wk) := Lib.hid (B0.out.trans (HBK.out.mono B0.out.size))
          have LT := Lib.hid (LT1.out.below HBK.out)
          obtain ⟨y, rfl, hcells⟩ := (HROW.out.below HBK.out).cells hlt
          have cq := hcells q hlt
          have cr := hcells r (by omega)
          have PNQ := Lib.hid (PN.out q r hlt hlt2)
          obtain ⟨bs, hbs⟩ : ∃ z, beside T (L.getD q 0) (L.getD r 0) = z := ⟨_, rfl⟩
          have HBS := Lib.hid hbs
          have BSQ : Hid (∀ p : Ph.S (Row.Old wk), Calls Tryz.prog 42 #[.agg c.toArray, .int .i64 (L.getD q 0), .int .i64 (L.getD r 0)] p.world fun e w' => e = .returned (.bool bs) ∧ Below p.world.heap.size p.world w') := Lib.hid (fun p => by have := BS.out (L.getD q 0) (L.getD r 0) p.world (BW.out.trans (p.is.mono BW.out.size)); rwa [hbs] at this)
          clear hbs hcells
          generalize L.getD q 0 = zq at *
          generalize hzr : L.getD r 0 = zr at *
          have HZR := Lib.hid hzr
          clear hzr
          have hne : Nonempty (Ph.S (Row.Old wk)) := ⟨⟨0, wk, Below.refl _ _⟩⟩
          have CQ : ∀ p : Ph.S (Row.Old wk), p.world.cell? (y.add q) = some (.int .i64 zq) := fun p => (p.is.cell (World.block_lt_of_cell? wk _ cq)).trans cq
          have CR : ∀ p : Ph.S (Row.Old wk), p.world.cell? (y.add r) = some (.int .i64 zr) := fun p => (p.is.cell (World.block_lt_of_cell? wk _ cr)).trans cr
          clear cq cr
          have hqi : ((q : Nat) : Int) < (L.length : Nat) := by omega
          have hri : ((r : Nat) : Int) < (L.length : Nat) := by omega
          have hrq : ((r : Nat) : Int) < (q : Nat) := by omega
          go_upto_region 8 with fail
          refine Pw.region (Row.Old wk) [] hmx (by kernel_rfl) (Row.Old.drew _) ?_
          refine Pw.load rfl (by rfl) 32 _ rfl ⟨w.heap.size, 0, none⟩ rfl c _ (fun p => LT.out.below p.is) Tryz.underlying32 rfl IA.out ?_
          (try dsimp only [Act.put]); (try simp only [List.setIfInBounds_toArray, List.set_cons_zero, List.set_cons_succ])
          iterate 8
            (refine Pw.calm rfl (fun K hK => ?_)
             go_simp
             refine hK _ ?_
             clear hK K)
          (refine Pw.calm rfl (fun K hK => ?_)
           go_simp
           refine ⟨_, fun p => Row.Old.call (BSQ.out p), hK _ ?_⟩
           clear hK K)
          iterate 1
            (refine Pw.calm rfl (fun K hK => ?_)
             go_simp
             refine hK _ ?_
             clear hK K)
          refine Pw.nil ?_
          intro uz hbz
          have EZ : Hid (Below w.heap.size w uz) := Lib.hid (BW.out.trans (hbz.mono BW.out.size))
          have EK := Lib.hid (HB2.out.trans (hbz.mono HB2.out.size))
          clear hbz CQ CR hne
          cases bs with
          | true =>
            have NX : Hid (∀ k, k < r + 1 → beside T zq (L.getD k 0) = true) := Lib.hid (fun k hk => by
              by_cases h1 : k = r
              · subst h1; rw [HZR.out]; exact HBS.out
              · exact HA2.out k (by omega))
            go_wp2
            go_roundw
            case rel => exact ⟨r + 1, by omega, by go_num, NX.out, EK.out⟩
            case measure => simp [intOf]; omega
          | false =>
            have SX : Hid (false = x) := Lib.hid (by rw [HX.out, PNQ.out HBS.out]; rfl)
            go_wp2
            go_ret
            exact ⟨ret_bool SX.out, EZ.out⟩
        · have NX : Hid (∀ i, i < q + 1 → ∀ k, k < i → beside T (L.getD i 0) (L.getD k 0) = true) := Lib.hid (fun i hi k hk => by
            by_cases h1 : i = q
            · subst h1; exact HA2.out k (by omega)
            · exact HA.out i (by omega) k hk)
          go_wp2
          go_roundw
          case rel => exact ⟨q + 1, by omega, by go_num, NX.out, HBK.out⟩
          case measure => simp [intOf]; omega
    · have SX : Hid (x = decide (0 < L.length)) := Lib.hid (by
        rw [HX.out, PY.out (fun i hi k hk => HA.out i (by omega) k hk)]; simp)
      have BW : Hid (Below w.heap.size w wr) := Lib.hid (B0.out.trans (HB.out.mono B0.out.size))
      go_wp2
      go_ret
      exact ⟨ret_bool (by rw [SX.out]), BW.out⟩
end Go.Proofs.YtjolhoilcibdfaaGreat.RkB
/- The times of a rail, as the document asks. -/
namespace Go.Proofs.YtjolhoilcibdfaaGreat.RkC
open Go.ChangeShapes Go.WideShapes Go.ChangeAt Go.RowKit
open Tab PlaceM PlanM OnS ChkM ChkA
open ChkB (laid2)
open May (ret_bool infoT infoR)
set_option linter.unusedVariables false
set_option linter.unusedSimpArgs false
def timesOk (r : Rl) : Bool := (decide (0 < r.hold) == (r.clear != 0)) && (decide (1 ≤ r.green) && (decide (1 ≤ r.stay) && ((r.most == 0 || decide (r.stay ≤ r.most)) && decide (r.delay < r.limit))))
end Go.Proofs.YtjolhoilcibdfaaGreat.RkC
/- Operations that are passed over, and moves and picks of literal booleans: all of a region's rest in one step that the kernel computes. No program in it. -/
namespace Go.Proofs.YtjolhoilcibdfaaGreat.Early
open Go Go.RowKit
def outB (ops : Array Oper) : List Oper → Act → Option Act
  | [], a => some a
  | o :: l, a =>
    if Region.wanted o (yielded ops a.tmps) then
      (match o.op with
       | .move x => outB ops l (a.put o.dst (a.eval x))
       | .assign x => outB ops l (a.put o.dst (a.eval x))
       | .pick c x y => (match a.eval c with
         | .bool b => outB ops l (a.put o.dst (if b then a.eval x else a.eval y))
         | _ => none)
       | _ => none)
    else outB ops l (a.put o.dst undef)
theorem out {P : Program} {ops : Array Oper} {Q : Exit → Act → World → Prop} {w : World} : ∀ {l : List Oper} {a a' : Act}, outB ops l a = some a' → Q .normal a' w → wpList P ops Q l a w
  | [], a, a', h, hQ => by
    obtain rfl : a = a' := Option.some.inj h
    exact hQ
  | o :: l, a, a', h, hQ => by
    unfold outB at h
    unfold wpList
    split at h
    · rename_i hw
      rw [if_pos hw]
      refine .inl ?_
      obtain ⟨dst, op, type, pos, after, guard⟩ := o
      unfold Oper.wp
      cases op with
      | move x => exact out (l := l) h hQ
      | assign x => exact out (l := l) h hQ
      | pick c x y =>
        dsimp only at h
        have hx : ∀ b, a.eval c = .bool b → (execOp a.eval { dst, op := .pick c x y, type, pos, after, guard }).run P w = .ok (.value (if b then a.eval x else a.eval y)) w := by
          intro b hb
          simp only [execOp, hb]
          cases b <;> rfl
        cases hc : a.eval c with
        | bool b =>
          rw [hc] at h
          rw [hx b hc]
          exact out (l := l) h hQ
        | _ => rw [hc] at h; cases h
      | _ => cases h
    · rename_i hw
      rw [if_neg hw]
      exact out (l := l) h hQ
theorem out_get {P : Program} {ops : Array Oper} {Q : Exit → Act → World → Prop} {w : World} {l : List Oper} {a : Act} (h : (outB ops l a).isSome = true) (hQ : Q .normal ((outB ops l a).getD a) w) : wpList P ops Q l a w := by
  cases e : outB ops l a with
  | none => rw [e] at h; cases h
  | some a' => rw [e] at hQ; exact out e hQ
theorem skip {P : Program} {ops : Array Oper} {Q : Exit → Act → World → Prop} {w : World} {o : Oper} {l : List Oper} {a : Act} (h : Region.wanted o (yielded ops a.tmps) = false) (hr : wpList P ops Q l (a.put o.dst undef) w) : wpList P ops Q (o :: l) a w := by
  unfold wpList
  rw [if_neg (by rw [h]; simp)]
  exact hr
end Go.Proofs.YtjolhoilcibdfaaGreat.Early
/- The document's own rail: one way through it (0). -/
namespace Go.Proofs.YtjolhoilcibdfaaGreat.RkC
open Go.ChangeShapes Go.WideShapes Go.ChangeAt Go.RowKit
open Tab PlaceM PlanM OnS ChkM ChkA
open ChkB (laid2)
open May (ret_bool infoT infoR)
set_option linter.unusedVariables false
set_option linter.unusedSimpArgs false
set_option maxRecDepth 100000 in
set_option maxHeartbeats 8000000 in
theorem rail_0 (T : Tab) (h : Hd) (r : Rl) (w : World) (ht : IsTab w h T) (sm : Few T) (z0 : inR (or4 r) (onS T : Nat) = false) :
    Calls Tryz.prog 52 #[.agg (T.cells h).toArray, .agg r.cells.toArray, .int .i64 (onS T : Nat)] w fun e w' => e = .returned (.bool (railOk T r)) ∧ Below w.heap.size w w' := by
  have hsz := (cells_ok ht).size
  have IA : Hid ((Tryz.prog.info? 32).map (·.size) = some (T.cells h).length) := Lib.hid (by rw [List.size_toArray] at hsz; rw [hsz]; exact infoT)
  have AO : Hid (∀ W, Calls Tryz.prog 53 #[.int .i64 (or4 r), .int .i64 (onS T : Nat)] W fun e w' => e = .returned (.bool (inR (or4 r) (onS T : Nat))) ∧ W = w') := Lib.hid (fun W => RkA.in_any _ _ W)
  have CL : Hid (∀ s W, Below w.heap.size w W → Calls Tryz.prog 94 #[.agg (T.cells h).toArray, .int .i64 s, .int .i64 s] W fun e w' => e = .returned (.bool (clashR T s s)) ∧ Below W.heap.size W w') := Lib.hid (fun s W hb => RkB.rclash_any T h s s W (ht.below hb))
  have AB : Hid (∀ s W, Below w.heap.size w W → Calls Tryz.prog 93 #[.agg (T.cells h).toArray, .int .i64 s] W fun e w' => e = .returned (.bool (exitR T s)) ∧ Below W.heap.size W w') := Lib.hid (fun s W hb => RkB.exit_any T h s W (ht.below hb) sm)
  obtain ⟨x, hx⟩ : ∃ x, x = railOk T r := ⟨_, rfl⟩
  rw [← hx]
  have HR : Hid (x = ((inR (or4 r) (onS T : Nat) && (r.dwell != 0 && (bits .and .i64 r.dwell r.bars == 0 && exitR T r.exit))) && (!clashR T r.clear r.clear && (!clashR T r.dwell r.dwell && (!clashR T r.exit r.exit && timesOk r))))) := Lib.hid hx
  have LT0 := Lib.hid (Row.lies_new w (T.cells h).toArray 32)
  have hs1 : (w.alloc (.cells (T.cells h).toArray 32)).heap.size = w.heap.size + 1 := by simp
  have hone := Rl.one r
  have hsz2 : r.cells.toArray.size = 11 := rfl
  have RC := Lib.hid (rail_cells r)
  have O4 : Hid (bits .or .i64 (bits .or .i64 (bits .or .i64 r.bars r.clear) r.dwell) r.exit = or4 r) := Lib.hid rfl
  obtain ⟨a1, ha1⟩ : ∃ z, inR (or4 r) (onS T : Nat) = z := ⟨_, rfl⟩
  obtain ⟨c1, hc1⟩ : ∃ z, clashR T r.clear r.clear = z := ⟨_, rfl⟩
  obtain ⟨c2, hc2⟩ : ∃ z, clashR T r.dwell r.dwell = z := ⟨_, rfl⟩
  obtain ⟨c3, hc3⟩ : ∃ z, clashR T r.exit r.exit = z := ⟨_, rfl⟩
  obtain ⟨b1, hb1⟩ : ∃ z, exitR T r.exit = z := ⟨_, rfl⟩
  have CL1 := Lib.hid (CL.out r.clear)
  have CL2 := Lib.hid (CL.out r.dwell)
  have CL3 := Lib.hid (CL.out r.exit)
  have AB1 := Lib.hid (AB.out r.exit)
  rw [ha1] at AO HR
  rw [hc1] at CL1 HR
  rw [hc2] at CL2 HR
  rw [hc3] at CL3 HR
  rw [hb1] at AB1 HR
  have TO : Hid (timesOk r = ((decide (0 < r.hold) == (r.clear != 0)) && (decide (1 ≤ r.green) && (decide (1 ≤ r.stay) && ((r.most == 0 || decide (r.stay ≤ r.most)) && decide (r.delay < r.limit)))))) := Lib.hid rfl
  rw [show a1 = false from ha1.symm.trans z0] at AO HR
  clear hx ht CL AB ha1 hc1 hc2 hc3 hb1
  generalize timesOk r = tk at *
  clear z0
  generalize or4 r = o4 at *
  generalize r.cells = rc at *
  obtain ⟨bars, clear_, dwell, exit, delay, green, foot, hold, stay, most, limit⟩ := r
  dsimp only at *
  generalize T.cells h = c at *
  generalize (((onS T : Nat)) : Int) = on at *
  go_enter Tryz.func52, Tryz.ntmps52
  go_upto_region 1 with fail
  obtain ⟨u, hu, E1, E0, EB, b1'⟩ := laid2 w (.cells c.toArray 32) (.cells rc.toArray 47)
  rw [hu]
  have A0 := Lib.hid E0
  have A1 := Lib.hid (LT0.out.below (by rw [hs1]; exact EB))
  have A2 : Hid (u.heap[w.heap.size + 1]? = some (.cells rc.toArray 47 (0, 0))) := Lib.hid b1'
  clear hu EB LT0 b1' hs1 hsz hsz2 hone E0 E1
  obtain ⟨q0, q1, q2, q3, q4, q5, q7, q8, q9, q10⟩ := RC.out _ _ A2.out
  go_wp2_with fail
  rw [O4.out]
  refine (AO.out _).mono ?_
  rintro e w' ⟨rfl, rfl⟩
  rename_i Q1 K1 hK1 K2 hK2
  refine hK2 _ _ ?_
  have HX : Hid (false = x) := Lib.hid (by rw [HR.out]; rfl)
  clear HR RC
  refine Early.out_get (by kernel_rfl) ?_
  refine hK1 _ _ ?_
  refine wp_seq (wp_region_lit ?_)
  refine Early.out_get (by kernel_rfl) ?_
  refine wp_ret ?_
  exact bodyPost_ret (v := .bool false) (by kernel_rfl) (by kernel_rfl) ⟨ret_bool HX.out, A0.out⟩
end Go.Proofs.YtjolhoilcibdfaaGreat.RkC
/- The document's own rail: one way through it (1). -/
namespace Go.Proofs.YtjolhoilcibdfaaGreat.RkC
open Go.ChangeShapes Go.WideShapes Go.ChangeAt Go.RowKit
open Tab PlaceM PlanM OnS ChkM ChkA
open ChkB (laid2)
open May (ret_bool infoT infoR)
set_option linter.unusedVariables false
set_option linter.unusedSimpArgs false
set_option maxRecDepth 100000 in
set_option maxHeartbeats 8000000 in
theorem rail_1 (T : Tab) (h : Hd) (r : Rl) (w : World) (ht : IsTab w h T) (sm : Few T) (z0 : inR (or4 r) (onS T : Nat) = true) (z1 : r.dwell = 0) :
    Calls Tryz.prog 52 #[.agg (T.cells h).toArray, .agg r.cells.toArray, .int .i64 (onS T : Nat)] w fun e w' => e = .returned (.bool (railOk T r)) ∧ Below w.heap.size w w' := by
  have hsz := (cells_ok ht).size
  have IA : Hid ((Tryz.prog.info? 32).map (·.size) = some (T.cells h).length) := Lib.hid (by rw [List.size_toArray] at hsz; rw [hsz]; exact infoT)
  have AO : Hid (∀ W, Calls Tryz.prog 53 #[.int .i64 (or4 r), .int .i64 (onS T : Nat)] W fun e w' => e = .returned (.bool (inR (or4 r) (onS T : Nat))) ∧ W = w') := Lib.hid (fun W => RkA.in_any _ _ W)
  have CL : Hid (∀ s W, Below w.heap.size w W → Calls Tryz.prog 94 #[.agg (T.cells h).toArray, .int .i64 s, .int .i64 s] W fun e w' => e = .returned (.bool (clashR T s s)) ∧ Below W.heap.size W w') := Lib.hid (fun s W hb => RkB.rclash_any T h s s W (ht.below hb))
  have AB : Hid (∀ s W, Below w.heap.size w W → Calls Tryz.prog 93 #[.agg (T.cells h).toArray, .int .i64 s] W fun e w' => e = .returned (.bool (exitR T s)) ∧ Below W.heap.size W w') := Lib.hid (fun s W hb => RkB.exit_any T h s W (ht.below hb) sm)
  obtain ⟨x, hx⟩ : ∃ x, x = railOk T r := ⟨_, rfl⟩
  rw [← hx]
  have HR : Hid (x = ((inR (or4 r) (onS T : Nat) && (r.dwell != 0 && (bits .and .i64 r.dwell r.bars == 0 && exitR T r.exit))) && (!clashR T r.clear r.clear && (!clashR T r.dwell r.dwell && (!clashR T r.exit r.exit && timesOk r))))) := Lib.hid hx
  have LT0 := Lib.hid (Row.lies_new w (T.cells h).toArray 32)
  have hs1 : (w.alloc (.cells (T.cells h).toArray 32)).heap.size = w.heap.size + 1 := by simp
  have hone := Rl.one r
  have hsz2 : r.cells.toArray.size = 11 := rfl
  have RC := Lib.hid (rail_cells r)
  have O4 : Hid (bits .or .i64 (bits .or .i64 (bits .or .i64 r.bars r.clear) r.dwell) r.exit = or4 r) := Lib.hid rfl
  obtain ⟨a1, ha1⟩ : ∃ z, inR (or4 r) (onS T : Nat) = z := ⟨_, rfl⟩
  obtain ⟨c1, hc1⟩ : ∃ z, clashR T r.clear r.clear = z := ⟨_, rfl⟩
  obtain ⟨c2, hc2⟩ : ∃ z, clashR T r.dwell r.dwell = z := ⟨_, rfl⟩
  obtain ⟨c3, hc3⟩ : ∃ z, clashR T r.exit r.exit = z := ⟨_, rfl⟩
  obtain ⟨b1, hb1⟩ : ∃ z, exitR T r.exit = z := ⟨_, rfl⟩
  have CL1 := Lib.hid (CL.out r.clear)
  have CL2 := Lib.hid (CL.out r.dwell)
  have CL3 := Lib.hid (CL.out r.exit)
  have AB1 := Lib.hid (AB.out r.exit)
  rw [ha1] at AO HR
  rw [hc1] at CL1 HR
  rw [hc2] at CL2 HR
  rw [hc3] at CL3 HR
  rw [hb1] at AB1 HR
  have TO : Hid (timesOk r = ((decide (0 < r.hold) == (r.clear != 0)) && (decide (1 ≤ r.green) && (decide (1 ≤ r.stay) && ((r.most == 0 || decide (r.stay ≤ r.most)) && decide (r.delay < r.limit)))))) := Lib.hid rfl
  rw [show a1 = true from ha1.symm.trans z0] at AO HR
  clear hx ht CL AB ha1 hc1 hc2 hc3 hb1
  generalize timesOk r = tk at *
  clear z0
  generalize or4 r = o4 at *
  generalize r.cells = rc at *
  obtain ⟨bars, clear_, dwell, exit, delay, green, foot, hold, stay, most, limit⟩ := r
  dsimp only at *
  generalize T.cells h = c at *
  generalize (((onS T : Nat)) : Int) = on at *
  go_enter Tryz.func52, Tryz.ntmps52
  go_upto_region 1 with fail
  obtain ⟨u, hu, E1, E0, EB, b1'⟩ := laid2 w (.cells c.toArray 32) (.cells rc.toArray 47)
  rw [hu]
  have A0 := Lib.hid E0
  have A1 := Lib.hid (LT0.out.below (by rw [hs1]; exact EB))
  have A2 : Hid (u.heap[w.heap.size + 1]? = some (.cells rc.toArray 47 (0, 0))) := Lib.hid b1'
  clear hu EB LT0 b1' hs1 hsz hsz2 hone E0 E1
  have H1 := Lib.hid z1
  clear z1
  have zb : (dwell != 0) = false := by rw [H1.out]; rfl
  obtain ⟨q0, q1, q2, q3, q4, q5, q7, q8, q9, q10⟩ := RC.out _ _ A2.out
  go_wp2_with fail
  rw [O4.out]
  refine (AO.out _).mono ?_
  rintro e w' ⟨rfl, rfl⟩
  rename_i Q1 K1 hK1 K2 hK2
  refine hK2 _ _ ?_
  refine wpList_plain rfl (fun K hK => ?_)
  go_simp
  refine hK _ _ ?_
  clear hK K
  (try dsimp only [Act.put]); (try simp only [List.setIfInBounds_toArray, List.set_cons_zero, List.set_cons_succ])
  refine BigFrame.wpList_want (by rfl) (fun K hK => ?_)
  go_simp
  refine hK _ _ ?_
  clear hK K
  (try dsimp only [Act.put]); (try simp only [List.setIfInBounds_toArray, List.set_cons_zero, List.set_cons_succ])
  refine BigFrame.wpList_want (by rfl) (fun K hK => ?_)
  go_simp
  refine hK _ _ ?_
  clear hK K
  (try dsimp only [Act.put]); (try simp only [List.setIfInBounds_toArray, List.set_cons_zero, List.set_cons_succ])
  refine BigFrame.wpList_want (by rfl) (fun K hK => ?_)
  go_simp
  refine hK _ _ ?_
  clear hK K
  (try dsimp only [Act.put]); (try simp only [List.setIfInBounds_toArray, List.set_cons_zero, List.set_cons_succ])
  have HX : Hid (false = x) := Lib.hid (by rw [HR.out]; simp [H1.out])
  clear HR RC
  refine Early.out_get (by kernel_rfl) ?_
  refine hK1 _ _ ?_
  refine wp_seq (wp_region_lit ?_)
  refine Early.out_get (by kernel_rfl) ?_
  refine wp_ret ?_
  exact bodyPost_ret (v := .bool false) (by kernel_rfl) (by kernel_rfl) ⟨ret_bool HX.out, A0.out⟩
end Go.Proofs.YtjolhoilcibdfaaGreat.RkC
/- The document's own rail: one way through it (2). -/
namespace Go.Proofs.YtjolhoilcibdfaaGreat.RkC
open Go.ChangeShapes Go.WideShapes Go.ChangeAt Go.RowKit
open Tab PlaceM PlanM OnS ChkM ChkA
open ChkB (laid2)
open May (ret_bool infoT infoR)
set_option linter.unusedVariables false
set_option linter.unusedSimpArgs false
set_option maxRecDepth 100000 in
set_option maxHeartbeats 8000000 in
theorem rail_2 (T : Tab) (h : Hd) (r : Rl) (w : World) (ht : IsTab w h T) (sm : Few T) (z0 : inR (or4 r) (onS T : Nat) = true) (z1 : r.dwell ≠ 0) (z2 : bits .and .i64 r.dwell r.bars ≠ 0) :
    Calls Tryz.prog 52 #[.agg (T.cells h).toArray, .agg r.cells.toArray, .int .i64 (onS T : Nat)] w fun e w' => e = .returned (.bool (railOk T r)) ∧ Below w.heap.size w w' := by
  have hsz := (cells_ok ht).size
  have IA : Hid ((Tryz.prog.info? 32).map (·.size) = some (T.cells h).length) := Lib.hid (by rw [List.size_toArray] at hsz; rw [hsz]; exact infoT)
  have AO : Hid (∀ W, Calls Tryz.prog 53 #[.int .i64 (or4 r), .int .i64 (onS T : Nat)] W fun e w' => e = .returned (.bool (inR (or4 r) (onS T : Nat))) ∧ W = w') := Lib.hid (fun W => RkA.in_any _ _ W)
  have CL : Hid (∀ s W, Below w.heap.size w W → Calls Tryz.prog 94 #[.agg (T.cells h).toArray, .int .i64 s, .int .i64 s] W fun e w' => e = .returned (.bool (clashR T s s)) ∧ Below W.heap.size W w') := Lib.hid (fun s W hb => RkB.rclash_any T h s s W (ht.below hb))
  have AB : Hid (∀ s W, Below w.heap.size w W → Calls Tryz.prog 93 #[.agg (T.cells h).toArray, .int .i64 s] W fun e w' => e = .returned (.bool (exitR T s)) ∧ Below W.heap.size W w') := Lib.hid (fun s W hb => RkB.exit_any T h s W (ht.below hb) sm)
  obtain ⟨x, hx⟩ : ∃ x, x = railOk T r := ⟨_, rfl⟩
  rw [← hx]
  have HR : Hid (x = ((inR (or4 r) (onS T : Nat) && (r.dwell != 0 && (bits .and .i64 r.dwell r.bars == 0 && exitR T r.exit))) && (!clashR T r.clear r.clear && (!clashR T r.dwell r.dwell && (!clashR T r.exit r.exit && timesOk r))))) := Lib.hid hx
  have LT0 := Lib.hid (Row.lies_new w (T.cells h).toArray 32)
  have hs1 : (w.alloc (.cells (T.cells h).toArray 32)).heap.size = w.heap.size + 1 := by simp
  have hone := Rl.one r
  have hsz2 : r.cells.toArray.size = 11 := rfl
  have RC := Lib.hid (rail_cells r)
  have O4 : Hid (bits .or .i64 (bits .or .i64 (bits .or .i64 r.bars r.clear) r.dwell) r.exit = or4 r) := Lib.hid rfl
  obtain ⟨a1, ha1⟩ : ∃ z, inR (or4 r) (onS T : Nat) = z := ⟨_, rfl⟩
  obtain ⟨c1, hc1⟩ : ∃ z, clashR T r.clear r.clear = z := ⟨_, rfl⟩
  obtain ⟨c2, hc2⟩ : ∃ z, clashR T r.dwell r.dwell = z := ⟨_, rfl⟩
  obtain ⟨c3, hc3⟩ : ∃ z, clashR T r.exit r.exit = z := ⟨_, rfl⟩
  obtain ⟨b1, hb1⟩ : ∃ z, exitR T r.exit = z := ⟨_, rfl⟩
  have CL1 := Lib.hid (CL.out r.clear)
  have CL2 := Lib.hid (CL.out r.dwell)
  have CL3 := Lib.hid (CL.out r.exit)
  have AB1 := Lib.hid (AB.out r.exit)
  rw [ha1] at AO HR
  rw [hc1] at CL1 HR
  rw [hc2] at CL2 HR
  rw [hc3] at CL3 HR
  rw [hb1] at AB1 HR
  have TO : Hid (timesOk r = ((decide (0 < r.hold) == (r.clear != 0)) && (decide (1 ≤ r.green) && (decide (1 ≤ r.stay) && ((r.most == 0 || decide (r.stay ≤ r.most)) && decide (r.delay < r.limit)))))) := Lib.hid rfl
  rw [show a1 = true from ha1.symm.trans z0] at AO HR
  clear hx ht CL AB ha1 hc1 hc2 hc3 hb1
  generalize timesOk r = tk at *
  clear z0
  generalize or4 r = o4 at *
  generalize r.cells = rc at *
  obtain ⟨bars, clear_, dwell, exit, delay, green, foot, hold, stay, most, limit⟩ := r
  dsimp only at *
  generalize T.cells h = c at *
  generalize (((onS T : Nat)) : Int) = on at *
  go_enter Tryz.func52, Tryz.ntmps52
  go_upto_region 1 with fail
  obtain ⟨u, hu, E1, E0, EB, b1'⟩ := laid2 w (.cells c.toArray 32) (.cells rc.toArray 47)
  rw [hu]
  have A0 := Lib.hid E0
  have A1 := Lib.hid (LT0.out.below (by rw [hs1]; exact EB))
  have A2 : Hid (u.heap[w.heap.size + 1]? = some (.cells rc.toArray 47 (0, 0))) := Lib.hid b1'
  clear hu EB LT0 b1' hs1 hsz hsz2 hone E0 E1
  have H1 := Lib.hid z1
  clear z1
  have H3 := Lib.hid z2
  clear z2
  have zb : (dwell != 0) = true := bne_iff_ne.2 H1.out
  obtain ⟨q0, q1, q2, q3, q4, q5, q7, q8, q9, q10⟩ := RC.out _ _ A2.out
  go_wp2_with fail
  rw [O4.out]
  refine (AO.out _).mono ?_
  rintro e w' ⟨rfl, rfl⟩
  have zc : (bits .and .i64 dwell bars == 0) = false := beq_eq_false_iff_ne.2 H3.out
  rename_i Q1 K1 hK1 K2 hK2
  refine hK2 _ _ ?_
  refine wpList_plain rfl (fun K hK => ?_)
  go_simp
  refine hK _ _ ?_
  clear hK K
  (try dsimp only [Act.put]); (try simp only [List.setIfInBounds_toArray, List.set_cons_zero, List.set_cons_succ])
  refine BigFrame.wpList_want (by rfl) (fun K hK => ?_)
  go_simp
  refine hK _ _ ?_
  clear hK K
  (try dsimp only [Act.put]); (try simp only [List.setIfInBounds_toArray, List.set_cons_zero, List.set_cons_succ])
  refine BigFrame.wpList_want (by rfl) (fun K hK => ?_)
  go_simp
  refine hK _ _ ?_
  clear hK K
  (try dsimp only [Act.put]); (try simp only [List.setIfInBounds_toArray, List.set_cons_zero, List.set_cons_succ])
  refine BigFrame.wpList_want (by rfl) (fun K hK => ?_)
  go_simp
  refine hK _ _ ?_
  clear hK K
  (try dsimp only [Act.put]); (try simp only [List.setIfInBounds_toArray, List.set_cons_zero, List.set_cons_succ])
  refine wpList_plain rfl (fun K hK => ?_)
  go_simp
  refine hK _ _ ?_
  clear hK K
  (try dsimp only [Act.put]); (try simp only [List.setIfInBounds_toArray, List.set_cons_zero, List.set_cons_succ])
  refine wpList_plain rfl (fun K hK => ?_)
  go_simp
  refine hK _ _ ?_
  clear hK K
  (try dsimp only [Act.put]); (try simp only [List.setIfInBounds_toArray, List.set_cons_zero, List.set_cons_succ])
  refine BigFrame.wpList_want (by rfl) (fun K hK => ?_)
  go_simp
  refine hK _ _ ?_
  clear hK K
  (try dsimp only [Act.put]); (try simp only [List.setIfInBounds_toArray, List.set_cons_zero, List.set_cons_succ])
  refine BigFrame.wpList_want (by rfl) (fun K hK => ?_)
  go_simp
  refine hK _ _ ?_
  clear hK K
  (try dsimp only [Act.put]); (try simp only [List.setIfInBounds_toArray, List.set_cons_zero, List.set_cons_succ])
  refine BigFrame.wpList_want (by rfl) (fun K hK => ?_)
  go_simp
  refine hK _ _ ?_
  clear hK K
  (try dsimp only [Act.put]); (try simp only [List.setIfInBounds_toArray, List.set_cons_zero, List.set_cons_succ])
  refine BigFrame.wpList_want (by rfl) (fun K hK => ?_)
  go_simp
  refine hK _ _ ?_
  clear hK K
  (try dsimp only [Act.put]); (try simp only [List.setIfInBounds_toArray, List.set_cons_zero, List.set_cons_succ])
  refine BigFrame.wpList_want (by rfl) (fun K hK => ?_)
  go_simp
  refine hK _ _ ?_
  clear hK K
  (try dsimp only [Act.put]); (try simp only [List.setIfInBounds_toArray, List.set_cons_zero, List.set_cons_succ])
  refine BigFrame.wpList_want (by rfl) (fun K hK => ?_)
  go_simp
  refine hK _ _ ?_
  clear hK K
  (try dsimp only [Act.put]); (try simp only [List.setIfInBounds_toArray, List.set_cons_zero, List.set_cons_succ])
  have HX : Hid (false = x) := Lib.hid (by rw [HR.out]; simp [H3.out])
  clear HR RC
  refine Early.out_get (by kernel_rfl) ?_
  refine hK1 _ _ ?_
  refine wp_seq (wp_region_lit ?_)
  refine Early.out_get (by kernel_rfl) ?_
  refine wp_ret ?_
  exact bodyPost_ret (v := .bool false) (by kernel_rfl) (by kernel_rfl) ⟨ret_bool HX.out, A0.out⟩
end Go.Proofs.YtjolhoilcibdfaaGreat.RkC
/- The document's own rail: one way through it (3). -/
namespace Go.Proofs.YtjolhoilcibdfaaGreat.RkC
open Go.ChangeShapes Go.WideShapes Go.ChangeAt Go.RowKit
open Tab PlaceM PlanM OnS ChkM ChkA
open ChkB (laid2)
open May (ret_bool infoT infoR)
set_option linter.unusedVariables false
set_option linter.unusedSimpArgs false
set_option maxRecDepth 100000 in
set_option maxHeartbeats 8000000 in
theorem rail_3 (T : Tab) (h : Hd) (r : Rl) (w : World) (ht : IsTab w h T) (sm : Few T) (z0 : inR (or4 r) (onS T : Nat) = true) (z1 : r.dwell ≠ 0) (z2 : bits .and .i64 r.dwell r.bars = 0) (z3 : exitR T r.exit = false) :
    Calls Tryz.prog 52 #[.agg (T.cells h).toArray, .agg r.cells.toArray, .int .i64 (onS T : Nat)] w fun e w' => e = .returned (.bool (railOk T r)) ∧ Below w.heap.size w w' := by
  have hsz := (cells_ok ht).size
  have IA : Hid ((Tryz.prog.info? 32).map (·.size) = some (T.cells h).length) := Lib.hid (by rw [List.size_toArray] at hsz; rw [hsz]; exact infoT)
  have AO : Hid (∀ W, Calls Tryz.prog 53 #[.int .i64 (or4 r), .int .i64 (onS T : Nat)] W fun e w' => e = .returned (.bool (inR (or4 r) (onS T : Nat))) ∧ W = w') := Lib.hid (fun W => RkA.in_any _ _ W)
  have CL : Hid (∀ s W, Below w.heap.size w W → Calls Tryz.prog 94 #[.agg (T.cells h).toArray, .int .i64 s, .int .i64 s] W fun e w' => e = .returned (.bool (clashR T s s)) ∧ Below W.heap.size W w') := Lib.hid (fun s W hb => RkB.rclash_any T h s s W (ht.below hb))
  have AB : Hid (∀ s W, Below w.heap.size w W → Calls Tryz.prog 93 #[.agg (T.cells h).toArray, .int .i64 s] W fun e w' => e = .returned (.bool (exitR T s)) ∧ Below W.heap.size W w') := Lib.hid (fun s W hb => RkB.exit_any T h s W (ht.below hb) sm)
  obtain ⟨x, hx⟩ : ∃ x, x = railOk T r := ⟨_, rfl⟩
  rw [← hx]
  have HR : Hid (x = ((inR (or4 r) (onS T : Nat) && (r.dwell != 0 && (bits .and .i64 r.dwell r.bars == 0 && exitR T r.exit))) && (!clashR T r.clear r.clear && (!clashR T r.dwell r.dwell && (!clashR T r.exit r.exit && timesOk r))))) := Lib.hid hx
  have LT0 := Lib.hid (Row.lies_new w (T.cells h).toArray 32)
  have hs1 : (w.alloc (.cells (T.cells h).toArray 32)).heap.size = w.heap.size + 1 := by simp
  have hone := Rl.one r
  have hsz2 : r.cells.toArray.size = 11 := rfl
  have RC := Lib.hid (rail_cells r)
  have O4 : Hid (bits .or .i64 (bits .or .i64 (bits .or .i64 r.bars r.clear) r.dwell) r.exit = or4 r) := Lib.hid rfl
  obtain ⟨a1, ha1⟩ : ∃ z, inR (or4 r) (onS T : Nat) = z := ⟨_, rfl⟩
  obtain ⟨c1, hc1⟩ : ∃ z, clashR T r.clear r.clear = z := ⟨_, rfl⟩
  obtain ⟨c2, hc2⟩ : ∃ z, clashR T r.dwell r.dwell = z := ⟨_, rfl⟩
  obtain ⟨c3, hc3⟩ : ∃ z, clashR T r.exit r.exit = z := ⟨_, rfl⟩
  obtain ⟨b1, hb1⟩ : ∃ z, exitR T r.exit = z := ⟨_, rfl⟩
  have CL1 := Lib.hid (CL.out r.clear)
  have CL2 := Lib.hid (CL.out r.dwell)
  have CL3 := Lib.hid (CL.out r.exit)
  have AB1 := Lib.hid (AB.out r.exit)
  rw [ha1] at AO HR
  rw [hc1] at CL1 HR
  rw [hc2] at CL2 HR
  rw [hc3] at CL3 HR
  rw [hb1] at AB1 HR
  have TO : Hid (timesOk r = ((decide (0 < r.hold) == (r.clear != 0)) && (decide (1 ≤ r.green) && (decide (1 ≤ r.stay) && ((r.most == 0 || decide (r.stay ≤ r.most)) && decide (r.delay < r.limit)))))) := Lib.hid rfl
  rw [show a1 = true from ha1.symm.trans z0] at AO HR; rw [show b1 = false from hb1.symm.trans z3] at AB1 HR
  clear hx ht CL AB ha1 hc1 hc2 hc3 hb1
  generalize timesOk r = tk at *
  clear z0 z3
  generalize or4 r = o4 at *
  generalize r.cells = rc at *
  obtain ⟨bars, clear_, dwell, exit, delay, green, foot, hold, stay, most, limit⟩ := r
  dsimp only at *
  generalize T.cells h = c at *
  generalize (((onS T : Nat)) : Int) = on at *
  go_enter Tryz.func52, Tryz.ntmps52
  go_upto_region 1 with fail
  obtain ⟨u, hu, E1, E0, EB, b1'⟩ := laid2 w (.cells c.toArray 32) (.cells rc.toArray 47)
  rw [hu]
  have A0 := Lib.hid E0
  have A1 := Lib.hid (LT0.out.below (by rw [hs1]; exact EB))
  have A2 : Hid (u.heap[w.heap.size + 1]? = some (.cells rc.toArray 47 (0, 0))) := Lib.hid b1'
  clear hu EB LT0 b1' hs1 hsz hsz2 hone E0 E1
  have H1 := Lib.hid z1
  clear z1
  have H3 := Lib.hid z2
  clear z2
  have zb : (dwell != 0) = true := bne_iff_ne.2 H1.out
  obtain ⟨q0, q1, q2, q3, q4, q5, q7, q8, q9, q10⟩ := RC.out _ _ A2.out
  go_wp2_with fail
  rw [O4.out]
  refine (AO.out _).mono ?_
  rintro e w' ⟨rfl, rfl⟩
  have zc : (bits .and .i64 dwell bars == 0) = true := beq_iff_eq.2 H3.out
  go_wp2_with (refine Row.wpList_load_g 32 _ rfl (by first | rfl | go_simp) ⟨w.heap.size, 0, none⟩ rfl c _ A1.out Tryz.underlying32 rfl IA.out ?_)
  (try go_wp2_with fail)
  refine (AB1.out _ A0.out).mono ?_
  rintro e u1 ⟨rfl, hb⟩
  replace A0 : Hid (Below w.heap.size w u1) := Lib.hid (A0.out.trans (hb.mono A0.out.size))
  replace A2 : Hid (u1.heap[w.heap.size + 1]? = some (.cells rc.toArray 47 (0, 0))) := Lib.hid ((hb.block _ (Array.getElem?_eq_some_iff.1 A2.out).1).trans A2.out)
  replace A1 := Lib.hid (A1.out.below hb)
  clear q0 q1 q2 q3 q4 q5 q7 q8 q9 q10
  clear hb
  obtain ⟨q0, q1, q2, q3, q4, q5, q7, q8, q9, q10⟩ := RC.out _ _ A2.out
  rename_i Q1 K1 hK1 K2 hK2
  refine hK2 _ _ ?_
  have HX : Hid (false = x) := Lib.hid (by rw [HR.out]; simp)
  clear HR RC
  refine Early.out_get (by kernel_rfl) ?_
  refine hK1 _ _ ?_
  refine wp_seq (wp_region_lit ?_)
  refine Early.out_get (by kernel_rfl) ?_
  refine wp_ret ?_
  exact bodyPost_ret (v := .bool false) (by kernel_rfl) (by kernel_rfl) ⟨ret_bool HX.out, A0.out⟩
end Go.Proofs.YtjolhoilcibdfaaGreat.RkC
/- The document's own rail: one way through it (4). -/
namespace Go.Proofs.YtjolhoilcibdfaaGreat.RkC
open Go.ChangeShapes Go.WideShapes Go.ChangeAt Go.RowKit
open Tab PlaceM PlanM OnS ChkM ChkA
open ChkB (laid2)
open May (ret_bool infoT infoR)
set_option linter.unusedVariables false
set_option linter.unusedSimpArgs false
set_option maxRecDepth 100000 in
set_option maxHeartbeats 8000000 in
theorem rail_4 (T : Tab) (h : Hd) (r : Rl) (w : World) (ht : IsTab w h T) (sm : Few T) (z0 : inR (or4 r) (onS T : Nat) = true) (z1 : r.dwell ≠ 0) (z2 : bits .and .i64 r.dwell r.bars = 0) (z3 : exitR T r.exit = true) (z4 : clashR T r.clear r.clear = true) :
    Calls Tryz.prog 52 #[.agg (T.cells h).toArray, .agg r.cells.toArray, .int .i64 (onS T : Nat)] w fun e w' => e = .returned (.bool (railOk T r)) ∧ Below w.heap.size w w' := by
  have hsz := (cells_ok ht).size
  have IA : Hid ((Tryz.prog.info? 32).map (·.size) = some (T.cells h).length) := Lib.hid (by rw [List.size_toArray] at hsz; rw [hsz]; exact infoT)
  have AO : Hid (∀ W, Calls Tryz.prog 53 #[.int .i64 (or4 r), .int .i64 (onS T : Nat)] W fun e w' => e = .returned (.bool (inR (or4 r) (onS T : Nat))) ∧ W = w') := Lib.hid (fun W => RkA.in_any _ _ W)
  have CL : Hid (∀ s W, Below w.heap.size w W → Calls Tryz.prog 94 #[.agg (T.cells h).toArray, .int .i64 s, .int .i64 s] W fun e w' => e = .returned (.bool (clashR T s s)) ∧ Below W.heap.size W w') := Lib.hid (fun s W hb => RkB.rclash_any T h s s W (ht.below hb))
  have AB : Hid (∀ s W, Below w.heap.size w W → Calls Tryz.prog 93 #[.agg (T.cells h).toArray, .int .i64 s] W fun e w' => e = .returned (.bool (exitR T s)) ∧ Below W.heap.size W w') := Lib.hid (fun s W hb => RkB.exit_any T h s W (ht.below hb) sm)
  obtain ⟨x, hx⟩ : ∃ x, x = railOk T r := ⟨_, rfl⟩
  rw [← hx]
  have HR : Hid (x = ((inR (or4 r) (onS T : Nat) && (r.dwell != 0 && (bits .and .i64 r.dwell r.bars == 0 && exitR T r.exit))) && (!clashR T r.clear r.clear && (!clashR T r.dwell r.dwell && (!clashR T r.exit r.exit && timesOk r))))) := Lib.hid hx
  have LT0 := Lib.hid (Row.lies_new w (T.cells h).toArray 32)
  have hs1 : (w.alloc (.cells (T.cells h).toArray 32)).heap.size = w.heap.size + 1 := by simp
  have hone := Rl.one r
  have hsz2 : r.cells.toArray.size = 11 := rfl
  have RC := Lib.hid (rail_cells r)
  have O4 : Hid (bits .or .i64 (bits .or .i64 (bits .or .i64 r.bars r.clear) r.dwell) r.exit = or4 r) := Lib.hid rfl
  obtain ⟨a1, ha1⟩ : ∃ z, inR (or4 r) (onS T : Nat) = z := ⟨_, rfl⟩
  obtain ⟨c1, hc1⟩ : ∃ z, clashR T r.clear r.clear = z := ⟨_, rfl⟩
  obtain ⟨c2, hc2⟩ : ∃ z, clashR T r.dwell r.dwell = z := ⟨_, rfl⟩
  obtain ⟨c3, hc3⟩ : ∃ z, clashR T r.exit r.exit = z := ⟨_, rfl⟩
  obtain ⟨b1, hb1⟩ : ∃ z, exitR T r.exit = z := ⟨_, rfl⟩
  have CL1 := Lib.hid (CL.out r.clear)
  have CL2 := Lib.hid (CL.out r.dwell)
  have CL3 := Lib.hid (CL.out r.exit)
  have AB1 := Lib.hid (AB.out r.exit)
  rw [ha1] at AO HR
  rw [hc1] at CL1 HR
  rw [hc2] at CL2 HR
  rw [hc3] at CL3 HR
  rw [hb1] at AB1 HR
  have TO : Hid (timesOk r = ((decide (0 < r.hold) == (r.clear != 0)) && (decide (1 ≤ r.green) && (decide (1 ≤ r.stay) && ((r.most == 0 || decide (r.stay ≤ r.most)) && decide (r.delay < r.limit)))))) := Lib.hid rfl
  rw [show a1 = true from ha1.symm.trans z0] at AO HR; rw [show b1 = true from hb1.symm.trans z3] at AB1 HR; rw [show c1 = true from hc1.symm.trans z4] at CL1 HR
  clear hx ht CL AB ha1 hc1 hc2 hc3 hb1
  generalize timesOk r = tk at *
  clear z0 z3 z4
  generalize or4 r = o4 at *
  generalize r.cells = rc at *
  obtain ⟨bars, clear_, dwell, exit, delay, green, foot, hold, stay, most, limit⟩ := r
  dsimp only at *
  generalize T.cells h = c at *
  generalize (((onS T : Nat)) : Int) = on at *
  go_enter Tryz.func52, Tryz.ntmps52
  go_upto_region 1 with fail
  obtain ⟨u, hu, E1, E0, EB, b1'⟩ := laid2 w (.cells c.toArray 32) (.cells rc.toArray 47)
  rw [hu]
  have A0 := Lib.hid E0
  have A1 := Lib.hid (LT0.out.below (by rw [hs1]; exact EB))
  have A2 : Hid (u.heap[w.heap.size + 1]? = some (.cells rc.toArray 47 (0, 0))) := Lib.hid b1'
  clear hu EB LT0 b1' hs1 hsz hsz2 hone E0 E1
  have H1 := Lib.hid z1
  clear z1
  have H3 := Lib.hid z2
  clear z2
  have zb : (dwell != 0) = true := bne_iff_ne.2 H1.out
  obtain ⟨q0, q1, q2, q3, q4, q5, q7, q8, q9, q10⟩ := RC.out _ _ A2.out
  go_wp2_with fail
  rw [O4.out]
  refine (AO.out _).mono ?_
  rintro e w' ⟨rfl, rfl⟩
  have zc : (bits .and .i64 dwell bars == 0) = true := beq_iff_eq.2 H3.out
  go_wp2_with (refine Row.wpList_load_g 32 _ rfl (by first | rfl | go_simp) ⟨w.heap.size, 0, none⟩ rfl c _ A1.out Tryz.underlying32 rfl IA.out ?_)
  (try go_wp2_with fail)
  refine (AB1.out _ A0.out).mono ?_
  rintro e u1 ⟨rfl, hb⟩
  replace A0 : Hid (Below w.heap.size w u1) := Lib.hid (A0.out.trans (hb.mono A0.out.size))
  replace A2 : Hid (u1.heap[w.heap.size + 1]? = some (.cells rc.toArray 47 (0, 0))) := Lib.hid ((hb.block _ (Array.getElem?_eq_some_iff.1 A2.out).1).trans A2.out)
  replace A1 := Lib.hid (A1.out.below hb)
  clear q0 q1 q2 q3 q4 q5 q7 q8 q9 q10
  clear hb
  obtain ⟨q0, q1, q2, q3, q4, q5, q7, q8, q9, q10⟩ := RC.out _ _ A2.out
  rename_i Q1 K1 hK1 K2 hK2
  refine hK2 _ _ ?_
  refine wpList_plain rfl (fun K hK => ?_)
  go_simp
  refine hK _ _ ?_
  clear hK K
  (try dsimp only [Act.put]); (try simp only [List.setIfInBounds_toArray, List.set_cons_zero, List.set_cons_succ])
  refine wpList_plain rfl (fun K hK => ?_)
  go_simp
  refine hK _ _ ?_
  clear hK K
  (try dsimp only [Act.put]); (try simp only [List.setIfInBounds_toArray, List.set_cons_zero, List.set_cons_succ])
  refine hK1 _ _ ?_
  clear hK2 K2 hK1 K1
  refine wp_seq_k (fun K1 hK1 => ?_)
  refine wp_region_lit ?_
  refine wpList_plain rfl (fun K hK => ?_)
  go_simp
  refine hK _ _ ?_
  clear hK K
  (try dsimp only [Act.put]); (try simp only [List.setIfInBounds_toArray, List.set_cons_zero, List.set_cons_succ])
  refine wpList_plain rfl (fun K hK => ?_)
  go_simp
  refine hK _ _ ?_
  clear hK K
  (try dsimp only [Act.put]); (try simp only [List.setIfInBounds_toArray, List.set_cons_zero, List.set_cons_succ])
  refine Row.wpList_load_g 32 _ rfl (by rfl) ⟨w.heap.size, 0, none⟩ rfl c _ A1.out Tryz.underlying32 rfl IA.out ?_
  (try dsimp only [Act.put]); (try simp only [List.setIfInBounds_toArray, List.set_cons_zero, List.set_cons_succ])
  refine BigFrame.wpList_want (by rfl) (fun K hK => ?_)
  go_simp
  refine hK _ _ ?_
  clear hK K
  (try dsimp only [Act.put]); (try simp only [List.setIfInBounds_toArray, List.set_cons_zero, List.set_cons_succ])
  refine BigFrame.wpList_want (by rfl) (fun K hK => ?_)
  go_simp
  refine hK _ _ ?_
  clear hK K
  (try dsimp only [Act.put]); (try simp only [List.setIfInBounds_toArray, List.set_cons_zero, List.set_cons_succ])
  refine BigFrame.wpList_want (by rfl) (fun K hK => ?_)
  go_simp
  refine hK _ _ ?_
  clear hK K
  (try dsimp only [Act.put]); (try simp only [List.setIfInBounds_toArray, List.set_cons_zero, List.set_cons_succ])
  refine BigFrame.wpList_want (by rfl) (fun K hK => ?_)
  go_simp
  refine hK _ _ ?_
  clear hK K
  (try dsimp only [Act.put]); (try simp only [List.setIfInBounds_toArray, List.set_cons_zero, List.set_cons_succ])
  refine BigFrame.wpList_want (by rfl) (fun K2 hK2 => ?_)
  go_simp
  refine (CL1.out _ A0.out).mono ?_
  rintro e u2 ⟨rfl, hb⟩
  replace A0 : Hid (Below w.heap.size w u2) := Lib.hid (A0.out.trans (hb.mono A0.out.size))
  replace A2 : Hid (u2.heap[w.heap.size + 1]? = some (.cells rc.toArray 47 (0, 0))) := Lib.hid ((hb.block _ (Array.getElem?_eq_some_iff.1 A2.out).1).trans A2.out)
  replace A1 := Lib.hid (A1.out.below hb)
  clear q0 q1 q2 q3 q4 q5 q7 q8 q9 q10
  clear hb
  obtain ⟨q0, q1, q2, q3, q4, q5, q7, q8, q9, q10⟩ := RC.out _ _ A2.out
  refine hK2 _ _ ?_
  clear hK2 K2
  refine BigFrame.wpList_want (by rfl) (fun K hK => ?_)
  go_simp
  refine hK _ _ ?_
  clear hK K
  (try dsimp only [Act.put]); (try simp only [List.setIfInBounds_toArray, List.set_cons_zero, List.set_cons_succ])
  have HX : Hid (false = x) := Lib.hid (by rw [HR.out]; simp)
  clear HR RC
  refine Early.out_get (by kernel_rfl) ?_
  refine hK1 _ _ ?_
  refine wp_ret ?_
  exact bodyPost_ret (v := .bool false) (by kernel_rfl) (by kernel_rfl) ⟨ret_bool HX.out, A0.out⟩
end Go.Proofs.YtjolhoilcibdfaaGreat.RkC
