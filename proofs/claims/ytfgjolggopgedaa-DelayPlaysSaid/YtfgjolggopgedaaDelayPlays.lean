/- DelayPlays returns true at any times and any inputs: the states are those of the document's own answer, tick by tick. No condition. -/
import Derived.Test.YtfgjolggopgedaaRows
import Derived.Test.YtfgjolggopgedaaDlyS
import Derived.LoopTactic
import Derived.WalkKit
import Derived.WalkLawsBesides
import Derived.ProofKit
import Derived.OpenShut
import Derived.ShutString
import Derived.ChangeOld
import Derived.Below
namespace Go.Proofs.Ytfgjolggopgedaa.delayPlays
open Go.ChangeShapes Go.WideShapes Go.ChangeAt Go.RowKit
open Tab Dly
set_option linter.unusedVariables false
set_option linter.unusedSimpArgs false

theorem own : ownKnob Try.prog.godebug = none := by kernel_rfl
theorem laidOut : laidOutB Try.prog = true := by kernel_rfl

/-- WHAT THE WALK IS TOLD OF A SLICE OF INTEGERS THAT CAME IN: it is nil; or it leads to a row of 'cap' cells, the numbers 'zs' (the first 'len' are its elements, the rest its spare room), each fitting its kind. -/
def IsRow (k : IntKind) (w : World) (a : Option Addr) (len cap : Nat) (zs : List Int) : Prop :=
  (a = none ∧ len = 0 ∧ cap = 0 ∧ zs = []) ∨
  ∃ x, a = some x ∧ len ≤ cap ∧ cap ≤ maxLen ∧ zs.length = cap ∧ (∀ i, i < zs.length → w.cell? (x.add i) = some (.int k (zs.getD i 0))) ∧ ∀ n ∈ zs, (Lit.int k n).wf = true

/-! ### the walk -/
set_option maxHeartbeats 4000000 in
theorem walk (a0 : Int) (a1 : Int) (s2 : Tab.Sl) (l2 : List Bool) (w : World) (w0 : (Lit.int .i64 a0).wf = true) (w1 : (Lit.int .i64 a1).wf = true) (w2 : Tab.RowOf 1 (fun b : Bool => [Value.bool b]) w s2 l2) :
    Calls Try.prog 4 #[.int .i64 a0, .int .i64 a1, .slice s2.a l2.length s2.cap] w fun e w' => e = .returned (.bool true) ∧ Below w.heap.size w w' := by
  obtain ⟨x, z, hA, hl1, hc1⟩ := Arg.bools_at w2
  obtain ⟨sa, cap⟩ := s2
  dsimp only at hA hl1 hc1 ⊢
  generalize l2.length = len at hA hl1 ⊢
  have HA := Lib.hid hA
  unfold maxLen at hc1
  clear hA w2
  go_enter Try.func4, Try.ntmps4
  go_upto_region 1 with fail
  by_cases hl : 300 < len
  · go_wp2_with fail
    refine (Dly.awake_any _).mono ?_
    rintro e u9 ⟨rfl, b9⟩
    go_wp2
    go_ret
    exact ⟨rfl, b9⟩
  have h0 := ((Blk.Bks.nil w).alloc #[I 0, I 0, .bool false] 23).alloc #[I 0, I 0, .bool false] 23
  rw [show (w.alloc (.cells #[I 0, I 0, .bool false] 23)).heap.size = w.heap.size + 1 by simp] at h0
  go_upto_region 4 with fail
  generalize World.alloc (World.alloc w _) _ = u1 at h0 ⊢
  generalize hgr : w.heap.size + 1 = gr at h0 ⊢
  generalize w.heap.size = gs at h0 ⊢
  clear hgr
  have H0 := Lib.hid h0
  clear h0
  go_wp2_with fail
  go_loopw [9] (fun i wr => ∃ (q : Nat) (h t : Int) (o : Bool), q ≤ len ∧ i = .int .i64 q ∧ Blk.Bks w [(gr, #[I h, I t, Value.bool o], 23), (gs, #[I h, I t, Value.bool o], 23)] wr) (fun i _ => len - (intOf i).toNat)
  case atStart => exact ⟨0, 0, 0, false, by omega, rfl, H0.out⟩
  case round =>
    obtain ⟨q, h, t, o, hq, rfl, hB⟩ := hrel
    have HB := Lib.hid hB
    clear hB
    by_cases hlt : q < len
    · obtain ⟨hx, hzl⟩ := HA.out q hlt
      obtain ⟨⟨h', t', o'⟩, hs⟩ : ∃ r, tmr a0 a1 ⟨h, t, o⟩ (z q) = r := ⟨_, rfl⟩
      have HS := Lib.hid hs
      have HZ := Lib.hid hzl
      clear hs hzl
      subst hx
      go_upto_region 7 with fail
      refine QB.region_tail 7 (by kernel_rfl) (by kernel_rfl) ?_
      have hk := HB.out.drew
      have hz : wr.drew.cell? (x.add q) = some (.bool (z q)) := Arg.one_below HZ.out HB.out.drew.bel
      generalize World.drew wr = vd at hk hz ⊢
      have HK := Lib.hid hk
      clear hk
      have k1_0 : vd.cell? ⟨gs, 0, none⟩ = some (I h) := HK.out.cell 1 0 rfl rfl
      have k1_1 : vd.cell? ⟨gs, 1, none⟩ = some (I t) := HK.out.cell 1 1 rfl rfl
      have k1_2 : vd.cell? ⟨gs, 2, none⟩ = some (Value.bool o) := HK.out.cell 1 2 rfl rfl
      simp only [List.take_succ_cons, List.take_zero, List.drop_succ_cons, List.drop_zero]
      repeat still_step
      refine wpStill_nil ?_
      go_wp2_with fail
      clear k1_0 k1_1 k1_2 hz
      refine (step_is HS.out _).mono ?_
      rintro e vc ⟨rfl, bc⟩
      have hd := HK.out.step bc
      have HD := Lib.hid hd
      clear hd bc HK
      go_upto_region 8 with (refine wpList_store_row rfl 23 _ _ rfl gs #[I h', I t', Value.bool o'] rfl rfl 23 _ (HD.out.at 1 rfl) infoT rfl (by simp [Value.oneCell']) ?_)
      have he := HD.out.put 1 rfl #[I h', I t', Value.bool o']
      simp only [List.set_cons_succ, List.set_cons_zero] at he
      generalize World.setRow vc _ _ = v1 at he ⊢
      have HE := Lib.hid he
      clear he HD
      refine QB.region_tail 7 (by kernel_rfl) (by kernel_rfl) ?_
      have hk := HE.out.drew
      have hz : v1.drew.cell? (x.add q) = some (.bool (z q)) := Arg.one_below HZ.out HE.out.drew.bel
      generalize World.drew v1 = vd at hk hz ⊢
      have HK := Lib.hid hk
      clear hk
      have k0_0 : vd.cell? ⟨gr, 0, none⟩ = some (I h) := HK.out.cell 0 0 rfl rfl
      have k0_1 : vd.cell? ⟨gr, 1, none⟩ = some (I t) := HK.out.cell 0 1 rfl rfl
      have k0_2 : vd.cell? ⟨gr, 2, none⟩ = some (Value.bool o) := HK.out.cell 0 2 rfl rfl
      simp only [List.take_succ_cons, List.take_zero, List.drop_succ_cons, List.drop_zero]
      repeat still_step
      refine wpStill_nil ?_
      go_wp2_with fail
      clear k0_0 k0_1 k0_2 hz
      refine (rstep_is HS.out _).mono ?_
      rintro e vc ⟨rfl, bc⟩
      have hd := HK.out.step bc
      have HD := Lib.hid hd
      clear hd bc HK
      go_upto_region 9 with (refine wpList_store_row rfl 23 _ _ rfl gr #[I h', I t', Value.bool o'] rfl rfl 23 _ (HD.out.at 0 rfl) infoT rfl (by simp [Value.oneCell']) ?_)
      have he := HD.out.put 0 rfl #[I h', I t', Value.bool o']
      simp only [List.set_cons_succ, List.set_cons_zero] at he
      generalize World.setRow vc _ _ = v2 at he ⊢
      have HF := Lib.hid he
      clear he HD
      have k0_0 : v2.cell? ⟨gr, 0, none⟩ = some (I h') := HF.out.cell 0 0 rfl rfl
      have k0_1 : v2.cell? ⟨gr, 1, none⟩ = some (I t') := HF.out.cell 0 1 rfl rfl
      have k0_2 : v2.cell? ⟨gr, 2, none⟩ = some (Value.bool o') := HF.out.cell 0 2 rfl rfl
      have k1_0 : v2.cell? ⟨gs, 0, none⟩ = some (I h') := HF.out.cell 1 0 rfl rfl
      have k1_1 : v2.cell? ⟨gs, 1, none⟩ = some (I t') := HF.out.cell 1 1 rfl rfl
      have k1_2 : v2.cell? ⟨gs, 2, none⟩ = some (Value.bool o') := HF.out.cell 1 2 rfl rfl
      go_wp2
      go_roundw
      case rel => exact ⟨q + 1, h', t', o', by omega, by go_num, HF.out⟩
      case measure => simp [intOf]; omega
    · obtain rfl : q = len := by omega
      go_wp2_with fail
      refine (Dly.awake_any _).mono ?_
      rintro e u9 ⟨rfl, b9⟩
      go_wp2
      go_ret
      exact ⟨rfl, (HB.out.step b9).bel⟩

/-! ### the row's step -/
set_option maxRecDepth 100000 in
theorem lifted (os : Os) (started : os.Started) (H : Type) (enc : TypeId × Value → H) :
    ReturnsInHanded {} Try.checked os 4 .any (Rows.delayPlaysSpec.pre6 enc Try.prog Try.f4 Rows.delayPlaysRow.domain false) (Rows.delayPlaysSpec.post enc Try.prog Try.f4 false true false false) := by
  refine returnsInHanded_of_change (C := Try.checked) own started (by kernel_rfl) Try.func4
    (ChangeSpec.witness6 (enc := enc) (C := Try.checked) false ⟨#[], #[.int .i64 0, .int .i64 0, .slice none 0 0], []⟩ 8 (by kernel_rfl) (by kernel_rfl) (by kernel_rfl) (by kernel_rfl)) ?_
  intro W base args ds gs before hval0 hW hcnd _
  have hval : ∀ (j : Nat) t v, Try.f4.params[j]? = some t → args[j]? = some v → Value.okWide Try.prog W .any base t v := hval0
  have hW' := hW
  obtain ⟨p, q, hA0, hV, rfl, hfz, hnd⟩ := hW
  have hA : DataW.TrodAll enc Try.prog W 0 (fun _ => true) true Try.f4.params.toList args.toList ds p := hA0
  rw [Try.params4] at hA hval
  obtain ⟨v0, vs0, d0, ds0, p0, q0, hargs, rfl, rfl, h0, r0⟩ := trodAll_cons hA
  obtain ⟨v1, vs1, d1, ds1, p1, q1, rfl, rfl, rfl, h1, r1⟩ := trodAll_cons r0
  obtain ⟨v2, vs2, d2, ds2, p2, q2, rfl, rfl, rfl, h2, r2⟩ := trodAll_cons r1
  obtain ⟨rfl, rfl, rfl⟩ := trodAll_nil r2
  obtain rfl : args = #[v0, v1, v2] := by cases args; simp_all
  obtain ⟨rfl, rfl⟩ := trodVars_none hV
  obtain ⟨a0, rfl, rfl, rfl, w0⟩ := open_int Try.underlying3 (hval 0 3 v0 rfl rfl) h0
  obtain ⟨a1, rfl, rfl, rfl, w1⟩ := open_int Try.underlying3 (hval 1 3 v1 rfl rfl) h1
  obtain ⟨a2, len2, cap2, rfl⟩ := okWide_slice Try.underlying27 (hval 2 27 v2 rfl rfl)
  have k2 := h2
  have lt2 : ∀ x ∈ p2, x.block < W.heap.size := by obtain ⟨m, hm⟩ := k2; exact DataW.trod_lt m _ _ _ hm
  obtain ⟨s2, l2, e2, w2⟩ : ∃ (s : Tab.Sl) (l : List Bool), Value.slice a2 len2 cap2 = s.val l.length ∧ Tab.RowOf 1 (fun b : Bool => [Value.bool b]) W s l := by
    obtain ⟨fuel, hf⟩ := h2
    obtain ⟨s, l, e, r, _⟩ := TabArg.tr_row (k := 1) (f := (fun b : Bool => [Value.bool b])) (p := fun _ => True) Try.underlying27 (by kernel_rfl) (fun n cs x hx => by obtain ⟨z, hz, _⟩ := DataW.trod_bool Try.underlying4 hx; exact ⟨z, hz, trivial⟩) ⟨fuel, _, hf⟩
    exact ⟨s, l, e, r⟩
  simp only [Tab.Sl.val, Value.slice.injEq] at e2
  obtain ⟨rfl, rfl, rfl⟩ := e2
  clear hA0 hval0
  refine (walk a0 a1 s2 l2 W w0 w1 w2).mono fun e W' ⟨he, bel⟩ => ?_
  subst he
  exact ⟨_, rfl, _, _, _, [], _, [], hW', trodAll_mk1 (shut_bool Try.underlying4 _), (trodAll_cons_mk (shut_int Try.underlying3 w0) (trodAll_cons_mk (shut_int Try.underlying3 w1) (trodAll_cons_mk (Below.trod laidOut (by kernel_rfl) (of_decide_eq_true (by kernel_rfl)) k2 bel lt2) trodAll_mk0))), rfl, bel.frame _, fun h => by cases h⟩

theorem over : Rows.delayPlaysRow.holds Try.pinned (OpenSpec.ofChange Rows.delayPlaysSpec) :=
  OpenClaim.holds_of_wide 4 Try.f4 rfl rfl rfl rfl rfl rfl rfl ⟨rfl, rfl, rfl, rfl, rfl⟩ rfl rfl rfl rfl rfl (by kernel_rfl) Try.func4 (by kernel_rfl)
    (of_decide_eq_true (by kernel_rfl)) (by unfold Func.isWrapper; first | (rw [if_pos (by decide +kernel)]; kernel_rfl) | (rw [if_neg (by decide +kernel)]; exact ⟨rfl, rfl⟩))
    (fun os started H enc _ => lifted os started H enc)

/-- the statement -/
theorem proved : Rows.DelayPlaysSaid :=
  over
#print axioms proved
end Go.Proofs.Ytfgjolggopgedaa.delayPlays
