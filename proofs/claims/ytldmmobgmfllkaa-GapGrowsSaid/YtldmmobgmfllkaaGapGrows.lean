/- GapGrows returns true at any phase, any trend and any row of green times: Grow and Limit of package gap answer as the document's own answers do, green time by green time. No condition. -/
import Derived.Test.YtldmmobgmfllkaaRows
import Derived.Test.YtldmmobgmfllkaaGapW
import Derived.Test.YtldmmobgmfllkaaGapR
import Derived.Test.YtldmmobgmfllkaaCloneB
import Derived.Test.YtldmmobgmfllkaaQT
import Derived.Test.YtldmmobgmfllkaaArg
import Derived.Deep.Cut
import Derived.LoopTactic
import Derived.BigQuiet
import Derived.Test.YtldmmobgmfllkaaFits
import Derived.Deep.RegionHeld3
import Derived.WalkKit
import Derived.WalkLawsBesides
import Derived.ProofKit
import Derived.OpenShut
import Derived.ShutString
import Derived.ChangeOld
import Derived.Below
namespace Go.Proofs.Ytldmmobgmfllkaa.gapGrows
open Go.ChangeShapes Go.WideShapes Go.ChangeAt Go.RowKit
open Tab Gap QL
open May (infoP)
set_option linter.unusedVariables false
set_option linter.unusedSimpArgs false

theorem own : ownKnob Try.prog.godebug = none := by kernel_rfl
theorem laidOut : laidOutB Try.prog = true := by kernel_rfl

/-- WHAT THE WALK IS TOLD OF A SLICE OF INTEGERS THAT CAME IN: it is nil; or it leads to a row of 'cap' cells, the numbers 'zs' (the first 'len' are its elements, the rest its spare room), each fitting its kind. -/
def IsRow (k : IntKind) (w : World) (a : Option Addr) (len cap : Nat) (zs : List Int) : Prop :=
  (a = none ∧ len = 0 ∧ cap = 0 ∧ zs = []) ∨
  ∃ x, a = some x ∧ len ≤ cap ∧ cap ≤ maxLen ∧ zs.length = cap ∧ (∀ i, i < zs.length → w.cell? (x.add i) = some (.int k (zs.getD i 0))) ∧ ∀ n ∈ zs, (Lit.int k n).wf = true

/-! ### the walk -/
set_option maxHeartbeats 8000000 in
theorem walk (x0 : Tab.Ph) (x1 : Gap.Tn) (s2 : Tab.Sl) (l2 : List Bool) (w : World) (w2 : Tab.RowOf 1 (fun b : Bool => [Value.bool b]) w s2 l2) :
    Calls Try.prog 4 #[.agg x0.cells.toArray, .agg x1.cells.toArray, .slice s2.a l2.length s2.cap] w fun e w' => e = .returned (.bool true) ∧ Below w.heap.size w w' := by
  obtain ⟨x, z, hA, hl1, hc1⟩ := Arg.bools_at w2
  obtain ⟨sa, cap⟩ := s2
  dsimp only at hA hl1 hc1 ⊢
  generalize l2.length = len at hA hl1 ⊢
  have HA := Lib.hid hA
  unfold maxLen at hc1
  clear hA w2
  obtain ⟨n, u, d⟩ := x1
  simp only [Tn.cells]
  generalize x0 = p at *
  have h0 := ((Blk.Bks.nil w).alloc p.cells.toArray 23).alloc #[I n, I u, I d] 25
  rw [show (w.alloc (.cells p.cells.toArray 23)).heap.size = w.heap.size + 1 by simp] at h0
  have FT : Hid (∀ W, ∃ fb : Bool, Calls Try.prog 13 #[.agg p.cells.toArray] W fun e w' => e = .returned (.bool fb) ∧ Below W.heap.size W w') := Lib.hid (fun W => ⟨_, Fits.fits_any p W⟩)
  go_enter Try.func4, Try.ntmps4
  go_upto_region 1 with fail
  generalize World.alloc (World.alloc w _) _ = v at h0 ⊢
  generalize hgs : w.heap.size + 1 = gs at h0 ⊢
  generalize w.heap.size = gp at h0 ⊢
  clear hgs
  have H0 := Lib.hid h0
  clear h0
  go_wp2_with (refine Row.wpList_load_g 23 _ rfl (by first | rfl | go_simp) ⟨gp, 0, none⟩ rfl p.cells _ (by have := Row.lies_of_block (H0.out.at 1 rfl); simpa using this) Try.underlying23 rfl infoP ?_)
  obtain ⟨fb, hf⟩ := FT.out v
  refine hf.mono ?_
  rintro e v1 ⟨rfl, b1⟩
  have H1 := Lib.hid (H0.out.step b1)
  clear b1 H0 FT hf
  by_cases hl : 100 < len
  · have hl2 : decide ((len : Int) > 100) = true := decide_eq_true (by omega)
    cases fb
    · go_wp2_with fail
      refine (awake_any _).mono ?_
      rintro e u9 ⟨rfl, b9⟩
      go_wp2
      go_ret
      exact ⟨rfl, (H1.out.step b9).bel⟩
    · go_wp2_with fail
      refine (awake_any _).mono ?_
      rintro e u9 ⟨rfl, b9⟩
      go_wp2
      go_ret
      exact ⟨rfl, (H1.out.step b9).bel⟩
  have hl2 : decide ((len : Int) > 100) = false := decide_eq_false (by omega)
  cases fb
  · go_wp2_with fail
    refine (awake_any _).mono ?_
    rintro e u9 ⟨rfl, b9⟩
    go_wp2
    go_ret
    exact ⟨rfl, (H1.out.step b9).bel⟩
  go_upto_region 3 with fail
  have c0 : v1.cell? ⟨gs, 0, none⟩ = some (I n) := H1.out.cell 0 0 rfl rfl
  have c1 : v1.cell? ⟨gs, 1, none⟩ = some (I u) := H1.out.cell 0 1 rfl rfl
  have c2 : v1.cell? ⟨gs, 2, none⟩ = some (I d) := H1.out.cell 0 2 rfl rfl
  have n0 := World.new_ne v1 _ c0
  have n1 := World.new_ne v1 _ c1
  have n2 := World.new_ne v1 _ c2
  go_cut [7, 8] from 10 (fun t7 t8 wx => ∃ ga gb, t7 = .pointer (some ⟨ga, 0, none⟩) ∧ t8 = .pointer (some ⟨gb, 0, none⟩) ∧ Blk.Bks w [(ga, #[I n, I u, I d], 25), (gb, #[I n, I u, I d], 25), (gs, #[I n, I u, I d], 25), (gp, p.cells.toArray, 23)] wx)
  case first =>
    go_region_held3 (fun w' => w'.cell? ⟨gs, 0, none⟩ = some (I n) ∧ w'.cell? ⟨gs, 1, none⟩ = some (I u) ∧ w'.cell? ⟨gs, 2, none⟩ = some (I d)) (go_keep) (fail)
    all_goals
      clear c0 c1 c2 n0 n1 n2
      refine (show Exit.then _ _ Exit.normal _ (World.drew (World.alloc (World.alloc v1 (.cells #[I n, I u, I d] 25)) (.cells #[I n, I u, I d] 25))) from ?_)
      have ha := ((H1.out.alloc #[I n, I u, I d] 25).alloc #[I n, I u, I d] 25).drew
      rw [show (v1.alloc (.cells #[I n, I u, I d] 25)).heap.size = v1.heap.size + 1 by simp] at ha
      generalize World.drew (World.alloc (World.alloc v1 (.cells #[I n, I u, I d] 25)) (.cells #[I n, I u, I d] 25)) = vx at ha ⊢
      generalize hgb : v1.heap.size + 1 = gb at ha ⊢
      generalize v1.heap.size = ga at ha ⊢
      clear hgb
      have HA := Lib.hid ha
      clear ha H1
      go_wp2_with fail
      go_meet
      case rel => first | exact ⟨gb, ga, rfl, rfl, HA.out⟩ | exact ⟨ga, gb, rfl, rfl, HA.out.swap⟩
  case rest =>
  obtain ⟨ga, gb, rfl, rfl, hB⟩ := hcut
  rename World => wx
  have HW := Lib.hid hB
  clear hB H1 c0 c1 c2 n0 n1 n2
  go_wp2_with fail
  go_loopw [9] (fun i wr => ∃ (q : Nat) (a b c : Int), q ≤ len ∧ i = .int .i64 q ∧ Blk.Bks w [(ga, #[I a, I b, I c], 25), (gb, #[I a, I b, I c], 25), (gs, #[I n, I u, I d], 25), (gp, p.cells.toArray, 23)] wr) (fun i _ => len - (intOf i).toNat)
  case atStart => exact ⟨0, n, u, d, by omega, rfl, HW.out⟩
  case round =>
    obtain ⟨q, a, b, c, hq, rfl, hB⟩ := hrel
    have HB := Lib.hid hB
    clear hB HW
    by_cases hlt : q < len
    · obtain ⟨hx, hzl⟩ := HA.out q hlt
      have HZ := Lib.hid hzl
      clear hzl
      subst hx
      generalize z q = bq at HZ
      obtain ⟨⟨a', b', c'⟩, hs⟩ : ∃ r, gr p ⟨a, b, c⟩ bq = r := ⟨_, rfl⟩
      have G1 : Hid (∀ W, Calls Try.prog 14 #[.agg p.cells.toArray, .agg #[I a, I b, I c], .bool bq] W fun e w' => e = .returned (.agg #[I a', I b', I c']) ∧ Below W.heap.size W w') := Lib.hid (fun W => grow_is hs W)
      have G2 : Hid (∀ W, Calls Try.prog 15 #[.agg p.cells.toArray, .agg #[I a, I b, I c], .bool bq] W fun e w' => e = .returned (.agg #[I a', I b', I c']) ∧ Below W.heap.size W w') := Lib.hid (fun W => rgrow_is hs W)
      obtain ⟨r, hr⟩ : ∃ r, lm p a' = r := ⟨_, rfl⟩
      have F4 : Hid (∀ W, Calls Try.prog 10 #[.agg p.cells.toArray, .agg #[I a', I b', I c']] W fun e w' => e = .returned (.int .i64 r) ∧ Below W.heap.size W w') := Lib.hid (fun W => by rw [← hr]; exact lim_any p a' b' c' W)
      have F5 : Hid (∀ W, Calls Try.prog 11 #[.agg p.cells.toArray, .agg #[I a', I b', I c']] W fun e w' => e = .returned (.int .i64 r) ∧ Below W.heap.size W w') := Lib.hid (fun W => by rw [← hr]; exact rlim_any p a' b' c' W)
      clear hs hr
      have kq : ∀ r : QB.By wr.heap.size wr, r.world.cell? (x.add q) = some (.bool bq) := fun r => Arg.one_below HZ.out (HB.out.by r).bel
      go_upto_region 7 with fail
      refine QT.region wr.heap.size 6 (by kernel_rfl) (by kernel_rfl) ?_
      simp only [List.take_succ_cons, List.take_zero]
      repeat first
        | (refine wpQuiet_load rfl 23 _ rfl ⟨gp, 0, none⟩ rfl p.cells _ (fun w' ⟨p, e⟩ => by rw [e]; have := Row.lies_of_block ((HB.out.by p).at 3 rfl); simpa using this) Try.underlying23 rfl infoP ?_
           dsimp only [Act.put]
           simp only [List.setIfInBounds_toArray, List.set_cons_zero, List.set_cons_succ])
        | (refine wpQuiet_load rfl 25 _ rfl ⟨ga, 0, none⟩ rfl [I a, I b, I c] _ (fun w' ⟨p, e⟩ => by rw [e]; have := Row.lies_of_block ((HB.out.by p).at 0 rfl); simpa using this) Try.underlying25 rfl infoTn ?_
           dsimp only [Act.put]
           simp only [List.setIfInBounds_toArray, List.set_cons_zero, List.set_cons_succ])
        | (quiet_step (fail))
      refine wpQuiet_nil ?_
      intro _ hw'
      obtain ⟨pq, rfl⟩ := hw'
      have HP := Lib.hid (HB.out.by pq)
      clear kq
      generalize pq.world = vp at HP ⊢
      simp only [List.drop_succ_cons, List.drop_zero]
      go_wp2_with fail
      refine (G1.out _).mono ?_
      rintro e vc ⟨rfl, bc⟩
      have HD := Lib.hid (HP.out.step bc)
      clear bc HP
      go_upto_region 8 with (refine wpList_store_row rfl 25 _ _ rfl ga #[I a', I b', I c'] rfl rfl 25 _ (HD.out.at 0 rfl) infoTn rfl (by simp [Value.oneCell']) ?_)
      have he := HD.out.put 0 rfl #[I a', I b', I c']
      simp only [List.set_cons_succ, List.set_cons_zero] at he
      generalize World.setRow _ ga _ = v2 at he ⊢
      have HE := Lib.hid he
      clear he HD
      have kq : ∀ r : QB.By v2.heap.size v2, r.world.cell? (x.add q) = some (.bool bq) := fun r => Arg.one_below HZ.out (HE.out.by r).bel
      go_upto_region 8 with fail
      refine QT.region v2.heap.size 6 (by kernel_rfl) (by kernel_rfl) ?_
      simp only [List.take_succ_cons, List.take_zero]
      repeat first
        | (refine wpQuiet_load rfl 23 _ rfl ⟨gp, 0, none⟩ rfl p.cells _ (fun w' ⟨p, e⟩ => by rw [e]; have := Row.lies_of_block ((HE.out.by p).at 3 rfl); simpa using this) Try.underlying23 rfl infoP ?_
           dsimp only [Act.put]
           simp only [List.setIfInBounds_toArray, List.set_cons_zero, List.set_cons_succ])
        | (refine wpQuiet_load rfl 25 _ rfl ⟨gb, 0, none⟩ rfl [I a, I b, I c] _ (fun w' ⟨p, e⟩ => by rw [e]; have := Row.lies_of_block ((HE.out.by p).at 1 rfl); simpa using this) Try.underlying25 rfl infoTn ?_
           dsimp only [Act.put]
           simp only [List.setIfInBounds_toArray, List.set_cons_zero, List.set_cons_succ])
        | (quiet_step (fail))
      refine wpQuiet_nil ?_
      intro _ hw'
      obtain ⟨pq, rfl⟩ := hw'
      have HP := Lib.hid (HE.out.by pq)
      clear kq
      generalize pq.world = vp at HP ⊢
      simp only [List.drop_succ_cons, List.drop_zero]
      go_wp2_with fail
      refine (G2.out _).mono ?_
      rintro e vc ⟨rfl, bc⟩
      have HD := Lib.hid (HP.out.step bc)
      clear bc HP
      go_upto_region 9 with (refine wpList_store_row rfl 25 _ _ rfl gb #[I a', I b', I c'] rfl rfl 25 _ (HD.out.at 1 rfl) infoTn rfl (by simp [Value.oneCell']) ?_)
      have he := HD.out.put 1 rfl #[I a', I b', I c']
      simp only [List.set_cons_succ, List.set_cons_zero] at he
      generalize World.setRow _ gb _ = v3 at he ⊢
      have HF := Lib.hid he
      clear he HD
      refine QB.region_below v3.heap.size (by kernel_rfl) (by kernel_rfl) ?_
      repeat first
        | (refine wpQuiet_load rfl 23 _ rfl ⟨gp, 0, none⟩ rfl p.cells _ (fun w' ⟨p, e⟩ => by rw [e]; have := Row.lies_of_block ((HF.out.by p).at 3 rfl); simpa using this) Try.underlying23 rfl infoP ?_
           dsimp only [Act.put]
           simp only [List.setIfInBounds_toArray, List.set_cons_zero, List.set_cons_succ])
        | (refine wpQuiet_load rfl 25 _ rfl ⟨ga, 0, none⟩ rfl [I a', I b', I c'] _ (fun w' ⟨p, e⟩ => by rw [e]; have := Row.lies_of_block ((HF.out.by p).at 0 rfl); simpa using this) Try.underlying25 rfl infoTn ?_
           dsimp only [Act.put]
           simp only [List.setIfInBounds_toArray, List.set_cons_zero, List.set_cons_succ])
        | (refine wpQuiet_load rfl 25 _ rfl ⟨gb, 0, none⟩ rfl [I a', I b', I c'] _ (fun w' ⟨p, e⟩ => by rw [e]; have := Row.lies_of_block ((HF.out.by p).at 1 rfl); simpa using this) Try.underlying25 rfl infoTn ?_
           dsimp only [Act.put]
           simp only [List.setIfInBounds_toArray, List.set_cons_zero, List.set_cons_succ])
        | (refine wpQuiet_neq rfl 25 _ _ _ rfl #[I a', I b', I c'] #[I a', I b', I c'] rfl rfl guardTn true (tn_eqs _ _ _) ?_
           dsimp only [Act.put]
           simp only [List.setIfInBounds_toArray, List.set_cons_zero, List.set_cons_succ]
           try simp only [Bool.not_true])
        | (quiet_step (first
            | (go_at_call 10; with_reducible exact QB.call_of (Nat.le_refl _) (fun b => F4.out _))
            | (go_at_call 11; with_reducible exact QB.call_of (Nat.le_refl _) (fun b => F5.out _))); try simp only [bne_self_eq_false])
      refine wpQuiet_nil ?_
      intro _ hw'
      obtain ⟨pq, rfl⟩ := hw'
      have HP := Lib.hid (HF.out.by pq)
      go_wp2
      go_roundw
      case rel => exact ⟨q + 1, a', b', c', by omega, by go_num, HP.out⟩
      case measure => simp [intOf]; omega
    · obtain rfl : q = len := by omega
      go_wp2_with fail
      refine (awake_any _).mono ?_
      rintro e u9 ⟨rfl, b9⟩
      go_wp2
      go_ret
      exact ⟨rfl, (HB.out.step b9).bel⟩

/-! ### the row's step -/
set_option maxRecDepth 100000 in
theorem lifted (os : Os) (started : os.Started) (H : Type) (enc : TypeId × Value → H) :
    ReturnsInHanded {} Try.checked os 4 .any (Rows.gapGrowsSpec.pre6 enc Try.prog Try.f4 Rows.gapGrowsRow.domain false) (Rows.gapGrowsSpec.post enc Try.prog Try.f4 false true false false) := by
  refine returnsInHanded_of_change (C := Try.checked) own started (by kernel_rfl) Try.func4
    (ChangeSpec.witness6 (enc := enc) (C := Try.checked) false ⟨#[], #[.agg Clone.zPh.cells.toArray, .agg (Gap.Tn.cells ⟨0, 0, 0⟩).toArray, .slice none 0 0], []⟩ 8 (by kernel_rfl) (by kernel_rfl) (by kernel_rfl) (by kernel_rfl)) ?_
  intro W base args ds gs before hval0 hW hcnd _
  have hval : ∀ (j : Nat) t v, Try.f4.params[j]? = some t → args[j]? = some v → Value.okWide Try.prog W .any base t v := hval0
  have hW' := hW
  obtain ⟨p, q, hA0, hV, rfl, hfz, hnd⟩ := hW
  have hA : DataW.TrodAll enc Try.prog W 0 (fun _ => true) true Try.f4.params.toList args.toList ds p := hA0
  rw [Try.params4] at hA hval
  obtain ⟨v0, vs0, d0, ds0, p0, q0, hargs, rfl, rfl, h0, r0⟩ := trodAll_cons hA
  obtain ⟨v1, vs1, d1, ds1, p1, q1, rfl, rfl, rfl, h1, r1⟩ := trodAll_cons r0
  obtain ⟨v2, vs2, d2, ds2, p2, q2, rfl, rfl, rfl, h2, r2⟩ := trodAll_cons r1
  obtain ⟨rfl, rfl, rfl⟩ := trodAll_nil r2
  obtain rfl : args = #[v0, v1, v2] := by cases args; simp_all
  obtain ⟨rfl, rfl⟩ := trodVars_none hV
  obtain ⟨c0, rfl, _⟩ := okWide_struct Try.underlying23 (hval 0 23 v0 rfl rfl)
  have k0 := h0
  have lt0 : ∀ x ∈ p0, x.block < W.heap.size := by obtain ⟨m, hm⟩ := k0; exact DataW.trod_lt m _ _ _ hm
  obtain ⟨x0, e0⟩ : ∃ x : Tab.Ph, c0 = x.cells.toArray := by
    obtain ⟨fuel, hf⟩ := h0
    obtain ⟨x, e⟩ := TabArg.ph_el (Flat.trod_flat 4 _ _ TabArg.flP fuel _ _ hf)
    exact ⟨x, by rw [← e]; simp [Value.cells]⟩
  subst e0
  obtain ⟨c1, rfl, _⟩ := okWide_struct Try.underlying25 (hval 1 25 v1 rfl rfl)
  have k1 := h1
  have lt1 : ∀ x ∈ p1, x.block < W.heap.size := by obtain ⟨m, hm⟩ := k1; exact DataW.trod_lt m _ _ _ hm
  obtain ⟨x1, e1⟩ : ∃ x : Gap.Tn, c1 = x.cells.toArray := by
    obtain ⟨fuel, hf⟩ := h1
    obtain ⟨x, e⟩ := Gap.tn_el (Flat.trod_flat 4 _ _ Gap.flTn fuel _ _ hf)
    exact ⟨x, by rw [← e]; simp [Value.cells]⟩
  subst e1
  obtain ⟨a2, len2, cap2, rfl⟩ := okWide_slice Try.underlying31 (hval 2 31 v2 rfl rfl)
  have k2 := h2
  have lt2 : ∀ x ∈ p2, x.block < W.heap.size := by obtain ⟨m, hm⟩ := k2; exact DataW.trod_lt m _ _ _ hm
  obtain ⟨s2, l2, e2, w2⟩ : ∃ (s : Tab.Sl) (l : List Bool), Value.slice a2 len2 cap2 = s.val l.length ∧ Tab.RowOf 1 (fun b : Bool => [Value.bool b]) W s l := by
    obtain ⟨fuel, hf⟩ := h2
    obtain ⟨s, l, e, r, _⟩ := TabArg.tr_row (k := 1) (f := (fun b : Bool => [Value.bool b])) (p := fun _ => True) Try.underlying31 (by kernel_rfl) (fun n cs x hx => by obtain ⟨z, hz, _⟩ := DataW.trod_bool Try.underlying4 hx; exact ⟨z, hz, trivial⟩) ⟨fuel, _, hf⟩
    exact ⟨s, l, e, r⟩
  simp only [Tab.Sl.val, Value.slice.injEq] at e2
  obtain ⟨rfl, rfl, rfl⟩ := e2
  clear hA0 hval0
  refine (walk x0 x1 s2 l2 W w2).mono fun e W' ⟨he, bel⟩ => ?_
  subst he
  exact ⟨_, rfl, _, _, _, [], _, [], hW', trodAll_mk1 (shut_bool Try.underlying4 _), (trodAll_cons_mk (Below.trod laidOut (by kernel_rfl) (of_decide_eq_true (by kernel_rfl)) k0 bel lt0) (trodAll_cons_mk (Below.trod laidOut (by kernel_rfl) (of_decide_eq_true (by kernel_rfl)) k1 bel lt1) (trodAll_cons_mk (Below.trod laidOut (by kernel_rfl) (of_decide_eq_true (by kernel_rfl)) k2 bel lt2) trodAll_mk0))), rfl, bel.frame _, fun h => by cases h⟩

theorem over : Rows.gapGrowsRow.holds Try.pinned (OpenSpec.ofChange Rows.gapGrowsSpec) :=
  OpenClaim.holds_of_wide 4 Try.f4 rfl rfl rfl rfl rfl rfl rfl ⟨rfl, rfl, rfl, rfl, rfl⟩ rfl rfl rfl rfl rfl (by kernel_rfl) Try.func4 (by kernel_rfl)
    (of_decide_eq_true (by kernel_rfl)) (by unfold Func.isWrapper; first | (rw [if_pos (by decide +kernel)]; kernel_rfl) | (rw [if_neg (by decide +kernel)]; exact ⟨rfl, rfl⟩))
    (fun os started H enc _ => lifted os started H enc)

/-- the statement -/
theorem proved : Rows.GapGrowsSaid :=
  over
#print axioms proved
end Go.Proofs.Ytldmmobgmfllkaa.gapGrows
