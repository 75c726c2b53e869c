/- GapLasts returns true at any phase and any row of cars: the gap timer ends just as many ticks behind the last car as the gap has. No condition. -/
import Derived.Test.YtldmmobgmfllkaaRows
import Derived.Test.YtldmmobgmfllkaaGapW
import Derived.Test.YtldmmobgmfllkaaGapR
import Derived.Test.YtldmmobgmfllkaaCloneB
import Derived.Test.YtldmmobgmfllkaaQT
import Derived.Test.YtldmmobgmfllkaaArg
import Derived.Deep.Cut
import Derived.LoopTactic
import Derived.BigQuiet
import Derived.WalkKit
import Derived.WalkLawsBesides
import Derived.ProofKit
import Derived.OpenShut
import Derived.ShutString
import Derived.ChangeOld
import Derived.Below
namespace Go.Proofs.Ytldmmobgmfllkaa.gapLasts
open Go.ChangeShapes Go.WideShapes Go.ChangeAt Go.RowKit
open Tab Gap QL
open May (infoP)
set_option linter.unusedVariables false
set_option linter.unusedSimpArgs false

theorem own : ownKnob Try.prog.godebug = none := by kernel_rfl
theorem laidOut : laidOutB Try.prog = true := by kernel_rfl

/-- WHAT THE WALK IS TOLD OF A SLICE OF INTEGERS THAT CAME IN: it is nil; or it leads to a row of 'cap' cells, the numbers 'zs' (the first 'len' are its elements, the rest its spare room), each fitting its kind. -/
def IsRow (k : IntKind) (w : World) (a : Option Addr) (len cap : Nat) (zs : List Int) : Prop :=
  (a = none ∧ len = 0 ∧ cap = 0 ∧ zs = []) ∨
  ∃ x, a = some x ∧ len ≤ cap ∧ cap ≤ maxLen ∧ zs.length = cap ∧ (∀ i, i < zs.length → w.cell? (x.add i) = some (.int k (zs.getD i 0))) ∧ ∀ n ∈ zs, (Lit.int k n).wf = true

/-! ### the walk -/
set_option maxHeartbeats 4000000 in
theorem walk (x0 : Tab.Ph) (s1 : Tab.Sl) (l1 : List Bool) (w : World) (w1 : Tab.RowOf 1 (fun b : Bool => [Value.bool b]) w s1 l1) :
    Calls Try.prog 6 #[.agg x0.cells.toArray, .slice s1.a l1.length s1.cap] w fun e w' => e = .returned (.bool true) ∧ Below w.heap.size w w' := by
  obtain ⟨x, z, hA, hl1, hc1⟩ := Arg.bools_at w1
  obtain ⟨sa, cap⟩ := s1
  dsimp only at hA hl1 hc1 ⊢
  generalize l1.length = len at hA hl1 ⊢
  have HA := Lib.hid hA
  unfold maxLen at hc1
  clear hA w1
  obtain ⟨g, hg⟩ : ∃ g, x0.gap % 30 = g := ⟨_, rfl⟩
  have g0 : 0 ≤ g := by omega
  have g1 : g < 30 := by omega
  have PL : Hid (∀ W, Calls Try.prog 17 #[.int .i64 x0.gap, .int .i64 30] W fun e w' => e = .returned (.int .i64 g) ∧ W = w') := Lib.hid (fun W => by have := Cnt.place_any x0.gap 30 W (by decide) (by decide); rwa [hg] at this)
  clear hg
  have h0 := (Blk.Bks.nil w).alloc x0.cells.toArray 23
  go_enter Try.func6, Try.ntmps6
  go_upto_region 1 with fail
  generalize World.alloc w _ = v at h0 ⊢
  generalize w.heap.size = gp at h0 ⊢
  have k2 : v.cell? ⟨gp, 2, none⟩ = some (I x0.gap) := h0.cell 0 2 rfl rfl
  have f2 : v.frozen? ⟨gp, 2, none⟩ = false := h0.frozen 0 2 rfl
  go_upto_region 2 with (go_at_call 17; refine (PL.out _).mono ?_; rintro e w' ⟨rfl, rfl⟩)
  have hput := h0.set 0 2 rfl (I g)
  rw [show x0.cells.toArray.setIfInBounds 2 (I g) = (Ph.cells { x0 with gap := g }).toArray by simp [Ph.cells]] at hput
  obtain ⟨p, hp⟩ : ∃ p : Ph, p = { x0 with gap := g } := ⟨_, rfl⟩
  rw [← hp] at hput
  have PG : Hid (p.gap = g) := Lib.hid (by rw [hp])
  simp only [List.set_cons_zero] at hput
  generalize World.setCell v _ _ = u1 at hput ⊢
  have H0 := Lib.hid hput
  clear hput h0 k2 f2 hp PL
  by_cases hl : 200 < len
  · go_wp2_with fail
    refine (awake_any _).mono ?_
    rintro e u9 ⟨rfl, b9⟩
    go_wp2
    go_ret
    exact ⟨rfl, (H0.out.step b9).bel⟩
  go_wp2_with fail
  go_loopw [5, 6, 7] (fun lf la i wr => ∃ (q : Nat) (left last : Int), q ≤ len ∧ i = .int .i64 q ∧ lf = .int .i64 left ∧ la = .int .i64 last ∧ -1000 ≤ last ∧ last ≤ (q : Int) - 1 ∧ Hid (left = max 0 (g - ((q : Int) - 1 - last))) ∧ Blk.Bks w [(gp, p.cells.toArray, 23)] wr) (fun _ _ i _ => len - (intOf i).toNat)
  case atStart => exact ⟨0, 0, -1000, by omega, rfl, rfl, rfl, by omega, by omega, Lib.hid (by omega), H0.out⟩
  case round =>
    obtain ⟨q, left, last, hq, rfl, rfl, rfl, l0, l1, HL, hB⟩ := hrel
    have HB := Lib.hid hB
    clear hB
    by_cases hlt : q < len
    · obtain ⟨hx, hzl⟩ := HA.out q hlt
      have HZ := Lib.hid hzl
      clear hzl
      subst hx
      generalize z q = bq at HZ
      obtain ⟨left', hlf⟩ : ∃ l, l = lf p.gap left bq := ⟨_, rfl⟩
      have HV := Lib.hid hlf
      clear hlf
      cases bq
      · have KV : Hid (left' = max 0 (g - ((q : Int) - last))) := Lib.hid (by rw [HV.out]; unfold lf; rw [if_neg (by simp)]; have := HL.out; split <;> (try split) <;> omega)
        have LC : Hid (∀ W, Calls Try.prog 7 #[.agg p.cells.toArray, .int .i64 left, .bool false] W fun e w' => e = .returned (.int .i64 left') ∧ Below W.heap.size W w') := Lib.hid (fun W => by rw [HV.out]; exact left_any p left false W)
        have kq : ∀ r : QB.By wr.heap.size wr, r.world.cell? (x.add q) = some (.bool false) := fun r => Arg.one_below HZ.out (HB.out.by r).bel
        go_upto_region 9 with fail
        refine QB.region_below wr.heap.size (by kernel_rfl) (by kernel_rfl) ?_
        repeat first
          | (refine wpQuiet_load rfl 23 _ rfl ⟨gp, 0, none⟩ rfl p.cells _ (fun w' ⟨p, e⟩ => by rw [e]; have := Row.lies_of_block ((HB.out.by p).at 0 rfl); simpa using this) Try.underlying23 rfl infoP ?_
             dsimp only [Act.put]
             simp only [List.setIfInBounds_toArray, List.set_cons_zero, List.set_cons_succ])
          | (quiet_step (first | (go_at_call 7; with_reducible exact QB.call_of (Nat.le_refl _) (fun b => LC.out _))))
        refine wpQuiet_nil ?_
        intro _ hw'
        obtain ⟨pq, rfl⟩ := hw'
        have HP := Lib.hid (HB.out.by pq)
        have hz := kq pq
        have k2 : pq.world.cell? ⟨gp, 2, none⟩ = some (I p.gap) := HP.out.cell 0 2 rfl rfl
        rw [PG.out] at k2
        clear kq
        generalize pq.world = wn at hz k2 HP ⊢
        have em : max 0 (g - ((q : Int) - last)) = left' := KV.out.symm
        have e1 : wrap64 ((q : Int) - last) = (q : Int) - last := IntWalk.wrap64_in _ (by omega)
        have e2 : wrap64 (g - ((q : Int) - last)) = g - ((q : Int) - last) := IntWalk.wrap64_in _ (by omega)
        go_wp2
        go_roundw
        case rel => exact ⟨q + 1, left', last, by omega, by go_num, rfl, rfl, by omega, by omega, Lib.hid (by rw [KV.out]; omega), HP.out⟩
        case measure => simp [intOf]; omega
      · have KV : Hid (left' = max 0 (g - ((q : Int) - (q : Int)))) := Lib.hid (by rw [HV.out]; unfold lf; rw [if_pos rfl, PG.out]; omega)
        have LC : Hid (∀ W, Calls Try.prog 7 #[.agg p.cells.toArray, .int .i64 left, .bool true] W fun e w' => e = .returned (.int .i64 left') ∧ Below W.heap.size W w') := Lib.hid (fun W => by rw [HV.out]; exact left_any p left true W)
        have kq : ∀ r : QB.By wr.heap.size wr, r.world.cell? (x.add q) = some (.bool true) := fun r => Arg.one_below HZ.out (HB.out.by r).bel
        go_upto_region 9 with fail
        refine QB.region_below wr.heap.size (by kernel_rfl) (by kernel_rfl) ?_
        repeat first
          | (refine wpQuiet_load rfl 23 _ rfl ⟨gp, 0, none⟩ rfl p.cells _ (fun w' ⟨p, e⟩ => by rw [e]; have := Row.lies_of_block ((HB.out.by p).at 0 rfl); simpa using this) Try.underlying23 rfl infoP ?_
             dsimp only [Act.put]
             simp only [List.setIfInBounds_toArray, List.set_cons_zero, List.set_cons_succ])
          | (quiet_step (first | (go_at_call 7; with_reducible exact QB.call_of (Nat.le_refl _) (fun b => LC.out _))))
        refine wpQuiet_nil ?_
        intro _ hw'
        obtain ⟨pq, rfl⟩ := hw'
        have HP := Lib.hid (HB.out.by pq)
        have hz := kq pq
        have k2 : pq.world.cell? ⟨gp, 2, none⟩ = some (I p.gap) := HP.out.cell 0 2 rfl rfl
        rw [PG.out] at k2
        clear kq
        generalize pq.world = wn at hz k2 HP ⊢
        have em : max 0 g = left' := by rw [KV.out]; omega
        have ew : wrap64 g = g := IntWalk.wrap64_in _ (by omega)
        go_wp2
        go_roundw
        case rel => exact ⟨q + 1, left', (q : Int), by omega, by go_num, rfl, rfl, by omega, by omega, Lib.hid (by rw [KV.out]; omega), HP.out⟩
        case measure => simp [intOf]; omega
    · obtain rfl : q = len := by omega
      go_wp2_with fail
      refine (awake_any _).mono ?_
      rintro e u9 ⟨rfl, b9⟩
      go_wp2
      go_ret
      exact ⟨rfl, (HB.out.step b9).bel⟩

/-! ### the row's step -/
set_option maxRecDepth 100000 in
theorem lifted (os : Os) (started : os.Started) (H : Type) (enc : TypeId × Value → H) :
    ReturnsInHanded {} Try.checked os 6 .any (Rows.gapLastsSpec.pre6 enc Try.prog Try.f6 Rows.gapLastsRow.domain false) (Rows.gapLastsSpec.post enc Try.prog Try.f6 false true false false) := by
  refine returnsInHanded_of_change (C := Try.checked) own started (by kernel_rfl) Try.func6
    (ChangeSpec.witness6 (enc := enc) (C := Try.checked) false ⟨#[], #[.agg Clone.zPh.cells.toArray, .slice none 0 0], []⟩ 8 (by kernel_rfl) (by kernel_rfl) (by kernel_rfl) (by kernel_rfl)) ?_
  intro W base args ds gs before hval0 hW hcnd _
  have hval : ∀ (j : Nat) t v, Try.f6.params[j]? = some t → args[j]? = some v → Value.okWide Try.prog W .any base t v := hval0
  have hW' := hW
  obtain ⟨p, q, hA0, hV, rfl, hfz, hnd⟩ := hW
  have hA : DataW.TrodAll enc Try.prog W 0 (fun _ => true) true Try.f6.params.toList args.toList ds p := hA0
  rw [Try.params6] at hA hval
  obtain ⟨v0, vs0, d0, ds0, p0, q0, hargs, rfl, rfl, h0, r0⟩ := trodAll_cons hA
  obtain ⟨v1, vs1, d1, ds1, p1, q1, rfl, rfl, rfl, h1, r1⟩ := trodAll_cons r0
  obtain ⟨rfl, rfl, rfl⟩ := trodAll_nil r1
  obtain rfl : args = #[v0, v1] := by cases args; simp_all
  obtain ⟨rfl, rfl⟩ := trodVars_none hV
  obtain ⟨c0, rfl, _⟩ := okWide_struct Try.underlying23 (hval 0 23 v0 rfl rfl)
  have k0 := h0
  have lt0 : ∀ x ∈ p0, x.block < W.heap.size := by obtain ⟨m, hm⟩ := k0; exact DataW.trod_lt m _ _ _ hm
  obtain ⟨x0, e0⟩ : ∃ x : Tab.Ph, c0 = x.cells.toArray := by
    obtain ⟨fuel, hf⟩ := h0
    obtain ⟨x, e⟩ := TabArg.ph_el (Flat.trod_flat 4 _ _ TabArg.flP fuel _ _ hf)
    exact ⟨x, by rw [← e]; simp [Value.cells]⟩
  subst e0
  obtain ⟨a1, len1, cap1, rfl⟩ := okWide_slice Try.underlying31 (hval 1 31 v1 rfl rfl)
  have k1 := h1
  have lt1 : ∀ x ∈ p1, x.block < W.heap.size := by obtain ⟨m, hm⟩ := k1; exact DataW.trod_lt m _ _ _ hm
  obtain ⟨s1, l1, e1, w1⟩ : ∃ (s : Tab.Sl) (l : List Bool), Value.slice a1 len1 cap1 = s.val l.length ∧ Tab.RowOf 1 (fun b : Bool => [Value.bool b]) W s l := by
    obtain ⟨fuel, hf⟩ := h1
    obtain ⟨s, l, e, r, _⟩ := TabArg.tr_row (k := 1) (f := (fun b : Bool => [Value.bool b])) (p := fun _ => True) Try.underlying31 (by kernel_rfl) (fun n cs x hx => by obtain ⟨z, hz, _⟩ := DataW.trod_bool Try.underlying4 hx; exact ⟨z, hz, trivial⟩) ⟨fuel, _, hf⟩
    exact ⟨s, l, e, r⟩
  simp only [Tab.Sl.val, Value.slice.injEq] at e1
  obtain ⟨rfl, rfl, rfl⟩ := e1
  clear hA0 hval0
  refine (walk x0 s1 l1 W w1).mono fun e W' ⟨he, bel⟩ => ?_
  subst he
  exact ⟨_, rfl, _, _, _, [], _, [], hW', trodAll_mk1 (shut_bool Try.underlying4 _), (trodAll_cons_mk (Below.trod laidOut (by kernel_rfl) (of_decide_eq_true (by kernel_rfl)) k0 bel lt0) (trodAll_cons_mk (Below.trod laidOut (by kernel_rfl) (of_decide_eq_true (by kernel_rfl)) k1 bel lt1) trodAll_mk0)), rfl, bel.frame _, fun h => by cases h⟩

theorem over : Rows.gapLastsRow.holds Try.pinned (OpenSpec.ofChange Rows.gapLastsSpec) :=
  OpenClaim.holds_of_wide 6 Try.f6 rfl rfl rfl rfl rfl rfl rfl ⟨rfl, rfl, rfl, rfl, rfl⟩ rfl rfl rfl rfl rfl (by kernel_rfl) Try.func6 (by kernel_rfl)
    (of_decide_eq_true (by kernel_rfl)) (by unfold Func.isWrapper; first | (rw [if_pos (by decide +kernel)]; kernel_rfl) | (rw [if_neg (by decide +kernel)]; exact ⟨rfl, rfl⟩))
    (fun os started H enc _ => lifted os started H enc)

/-- the statement -/
theorem proved : Rows.GapLastsSaid :=
  over
#print axioms proved
end Go.Proofs.Ytldmmobgmfllkaa.gapLasts
