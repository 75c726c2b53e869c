/- LevelPlays returns true at any detector and any samples: the states are those of the document's own answer, sample by sample. No condition. -/
import Derived.Test.YtolakjdikamffaaRows
import Derived.Test.YtolakjdikamffaaLvW
import Derived.Deep.Cut
import Derived.Test.YtolakjdikamffaaBlk
import Derived.Test.YtolakjdikamffaaRecs
import Derived.LoopTactic
import Derived.WalkKit
import Derived.WalkLawsBesides
import Derived.ProofKit
import Derived.OpenShut
import Derived.ShutString
import Derived.ChangeOld
import Derived.Below
namespace Go.Proofs.Ytolakjdikamffaa.levelPlays
open Go.ChangeShapes Go.WideShapes Go.ChangeAt Go.RowKit
open Tab Lvl Go.Proofs.Fl
open Lvl (infoL)
set_option linter.unusedVariables false
set_option linter.unusedSimpArgs false

theorem own : ownKnob Try.prog.godebug = none := by kernel_rfl
theorem laidOut : laidOutB Try.prog = true := by kernel_rfl

/-- WHAT THE WALK IS TOLD OF A SLICE OF INTEGERS THAT CAME IN: it is nil; or it leads to a row of 'cap' cells, the numbers 'zs' (the first 'len' are its elements, the rest its spare room), each fitting its kind. -/
def IsRow (k : IntKind) (w : World) (a : Option Addr) (len cap : Nat) (zs : List Int) : Prop :=
  (a = none ∧ len = 0 ∧ cap = 0 ∧ zs = []) ∨
  ∃ x, a = some x ∧ len ≤ cap ∧ cap ≤ maxLen ∧ zs.length = cap ∧ (∀ i, i < zs.length → w.cell? (x.add i) = some (.int k (zs.getD i 0))) ∧ ∀ n ∈ zs, (Lit.int k n).wf = true

/-! ### the walk -/
set_option maxHeartbeats 4000000 in
theorem walk (x0 : Tab.Det) (a1 : Option Addr) (len1 cap1 : Nat) (z1 : Nat → Nat) (w : World) (w1 : Recs.IsFlts w a1 len1 cap1 z1) :
    Calls Try.prog 4 #[.agg x0.cells.toArray, .slice a1 len1 cap1] w fun e w' => e = .returned (.bool true) ∧ Below w.heap.size w w' := by
  obtain ⟨ph, on, off, dl, ex, mo, mf⟩ := x0
  obtain ⟨x, hA, hl1, hc1⟩ := flts_at w1
  have HA := Lib.hid hA
  unfold maxLen at hc1
  clear hA w1
  simp only [Det.cells]
  have h0 := (Blk.Bks.nil w).alloc #[I ph, F on, F off, F dl, F ex, I mo, I mf] 24
  go_enter Try.func4, Try.ntmps4
  go_upto_region 1 with fail
  generalize World.alloc w _ = u at h0 ⊢
  have H0 := Lib.hid h0
  clear h0
  by_cases hl : 200 < len1
  · go_wp2_with fail
    refine (Lvl.awake_any _).mono ?_
    rintro e u1 ⟨rfl, b1⟩
    go_wp2
    go_ret
    exact ⟨rfl, (H0.out.step b1).bel⟩
  go_upto_region 4 with fail
  have h0 := (H0.out.alloc #[.bool false, I 0] 26).alloc #[.bool false, I 0] 26
  rw [show (u.alloc (.cells #[.bool false, I 0] 26)).heap.size = u.heap.size + 1 by simp] at h0
  clear H0
  generalize World.alloc _ (.cells #[.bool false, I 0] 26) = u1 at h0 ⊢
  generalize hgr : u.heap.size + 1 = gr at h0 ⊢
  generalize u.heap.size = gs at h0 ⊢
  clear hgr
  have H0 := Lib.hid h0
  clear h0
  go_wp2_with fail
  go_loopw [7] (fun i wr => ∃ (q : Nat) (b : Bool) (n : Int), q ≤ len1 ∧ i = .int .i64 q ∧ Blk.Bks w [(gr, #[Value.bool b, I n], 26), (gs, #[Value.bool b, I n], 26), (w.heap.size, #[I ph, F on, F off, F dl, F ex, I mo, I mf], 24)] wr) (fun i _ => len1 - (intOf i).toNat)
  case atStart => exact ⟨0, false, 0, by omega, rfl, H0.out⟩
  case round =>
    obtain ⟨q, b, n, hq, rfl, hB⟩ := hrel
    have HB := Lib.hid hB
    clear hB
    by_cases hlt : q < len1
    · obtain ⟨hx, hzl, hxz⟩ := HA.out q hlt
      obtain ⟨b', n', hs⟩ : ∃ b' n', stp on off ⟨b, n⟩ (z1 q) = ⟨b', n'⟩ := ⟨_, _, rfl⟩
      have HS := Lib.hid hs
      have HZ := Lib.hid hzl
      have HX := Lib.hid hxz
      clear hs hzl hxz
      subst hx
      go_upto_region 7 with fail
      refine QB.region_tail 6 (by kernel_rfl) (by kernel_rfl) ?_
      have hk := HB.out.drew
      have hz : wr.drew.cell? (x.add q) = some (.float .f64 (z1 q)) := at_below HZ.out HB.out.drew.bel
      generalize World.drew wr = v at hk hz ⊢
      have HC := Lib.hid hk
      clear hk
      have k0_0 : v.cell? ⟨gr, 0, none⟩ = some (Value.bool b) := HC.out.cell 0 0 rfl rfl
      have k0_1 : v.cell? ⟨gr, 1, none⟩ = some (I n) := HC.out.cell 0 1 rfl rfl
      have k1_0 : v.cell? ⟨gs, 0, none⟩ = some (Value.bool b) := HC.out.cell 1 0 rfl rfl
      have k1_1 : v.cell? ⟨gs, 1, none⟩ = some (I n) := HC.out.cell 1 1 rfl rfl
      have k2_0 : v.cell? ⟨w.heap.size, 0, none⟩ = some (I ph) := HC.out.cell 2 0 rfl rfl
      have k2_1 : v.cell? ⟨w.heap.size, 1, none⟩ = some (F on) := HC.out.cell 2 1 rfl rfl
      have k2_2 : v.cell? ⟨w.heap.size, 2, none⟩ = some (F off) := HC.out.cell 2 2 rfl rfl
      have k2_3 : v.cell? ⟨w.heap.size, 3, none⟩ = some (F dl) := HC.out.cell 2 3 rfl rfl
      have k2_4 : v.cell? ⟨w.heap.size, 4, none⟩ = some (F ex) := HC.out.cell 2 4 rfl rfl
      have k2_5 : v.cell? ⟨w.heap.size, 5, none⟩ = some (I mo) := HC.out.cell 2 5 rfl rfl
      have k2_6 : v.cell? ⟨w.heap.size, 6, none⟩ = some (I mf) := HC.out.cell 2 6 rfl rfl
      simp only [List.take_succ_cons, List.take_zero, List.drop_succ_cons, List.drop_zero]
      repeat still_step
      refine wpStill_nil ?_
      go_wp2_with fail
      clear k0_0 k0_1 k1_0 k1_1 k2_0 k2_1 k2_2 k2_3 k2_4 k2_5 k2_6 hz
      refine (step_is HX.out HS.out _).mono ?_
      rintro e v1 ⟨rfl, b1⟩
      have hd := HC.out.step b1
      have HD := Lib.hid hd
      clear hd b1 HB HC
      go_upto_region 8 with (refine wpList_store_row rfl 26 _ _ rfl gs #[Value.bool b', I n'] rfl rfl 26 _ (HD.out.at 1 rfl) infoL rfl (by simp [Value.oneCell']) ?_)
      have he := HD.out.put 1 rfl #[.bool b', I n']
      simp only [List.set_cons_succ, List.set_cons_zero] at he
      generalize World.setRow v1 gs _ = v2 at he ⊢
      have HE := Lib.hid he
      clear he HD
      refine QB.region_tail 6 (by kernel_rfl) (by kernel_rfl) ?_
      have hk := HE.out.drew
      have hz : v2.drew.cell? (x.add q) = some (.float .f64 (z1 q)) := at_below HZ.out HE.out.drew.bel
      generalize World.drew v2 = v3 at hk hz ⊢
      have HF := Lib.hid hk
      clear hk
      have k0_0 : v3.cell? ⟨gr, 0, none⟩ = some (Value.bool b) := HF.out.cell 0 0 rfl rfl
      have k0_1 : v3.cell? ⟨gr, 1, none⟩ = some (I n) := HF.out.cell 0 1 rfl rfl
      have k1_0 : v3.cell? ⟨gs, 0, none⟩ = some (Value.bool b') := HF.out.cell 1 0 rfl rfl
      have k1_1 : v3.cell? ⟨gs, 1, none⟩ = some (I n') := HF.out.cell 1 1 rfl rfl
      have k2_0 : v3.cell? ⟨w.heap.size, 0, none⟩ = some (I ph) := HF.out.cell 2 0 rfl rfl
      have k2_1 : v3.cell? ⟨w.heap.size, 1, none⟩ = some (F on) := HF.out.cell 2 1 rfl rfl
      have k2_2 : v3.cell? ⟨w.heap.size, 2, none⟩ = some (F off) := HF.out.cell 2 2 rfl rfl
      have k2_3 : v3.cell? ⟨w.heap.size, 3, none⟩ = some (F dl) := HF.out.cell 2 3 rfl rfl
      have k2_4 : v3.cell? ⟨w.heap.size, 4, none⟩ = some (F ex) := HF.out.cell 2 4 rfl rfl
      have k2_5 : v3.cell? ⟨w.heap.size, 5, none⟩ = some (I mo) := HF.out.cell 2 5 rfl rfl
      have k2_6 : v3.cell? ⟨w.heap.size, 6, none⟩ = some (I mf) := HF.out.cell 2 6 rfl rfl
      simp only [List.take_succ_cons, List.take_zero, List.drop_succ_cons, List.drop_zero]
      repeat still_step
      refine wpStill_nil ?_
      go_wp2_with fail
      clear k0_0 k0_1 k1_0 k1_1 k2_0 k2_1 k2_2 k2_3 k2_4 k2_5 k2_6 hz
      refine (rstep_is HX.out HS.out _).mono ?_
      rintro e v4 ⟨rfl, b1⟩
      have hd := HF.out.step b1
      have HD := Lib.hid hd
      clear hd b1 HE HF
      go_upto_region 9 with (refine wpList_store_row rfl 26 _ _ rfl gr #[Value.bool b', I n'] rfl rfl 26 _ (HD.out.at 0 rfl) infoL rfl (by simp [Value.oneCell']) ?_)
      have he := HD.out.put 0 rfl #[.bool b', I n']
      simp only [List.set_cons_succ, List.set_cons_zero] at he
      generalize World.setRow v4 gr _ = v5 at he ⊢
      have HE := Lib.hid he
      clear he HD
      have k0_0 : ∀ p : QB.By v5.heap.size v5, p.world.cell? ⟨gr, 0, none⟩ = some (Value.bool b') := fun p => (HE.out.by p).cell 0 0 rfl rfl
      have k0_1 : ∀ p : QB.By v5.heap.size v5, p.world.cell? ⟨gr, 1, none⟩ = some (I n') := fun p => (HE.out.by p).cell 0 1 rfl rfl
      have k1_0 : ∀ p : QB.By v5.heap.size v5, p.world.cell? ⟨gs, 0, none⟩ = some (Value.bool b') := fun p => (HE.out.by p).cell 1 0 rfl rfl
      have k1_1 : ∀ p : QB.By v5.heap.size v5, p.world.cell? ⟨gs, 1, none⟩ = some (I n') := fun p => (HE.out.by p).cell 1 1 rfl rfl
      refine QB.region_below v5.heap.size (by kernel_rfl) (by kernel_rfl) ?_
      repeat (quiet_step (first
        | (go_at_call 11; exact QB.call_of (Nat.le_refl _) (fun b => seen_is _))
        | (go_at_call 12; exact QB.call_of (Nat.le_refl _) (fun b => rseen_is _))))
      refine wpQuiet_nil ?_
      intro _ hw'
      obtain ⟨p, rfl⟩ := hw'
      have HG := Lib.hid (HE.out.by p)
      clear k0_0 k0_1 k1_0 k1_1 HE
      go_wp2
      go_roundw
      case rel => exact ⟨q + 1, b', n', by omega, by go_num, HG.out⟩
      case measure => simp [intOf]; omega
    · obtain rfl : q = len1 := by omega
      go_wp2_with fail
      refine (Lvl.awake_any _).mono ?_
      rintro e u3 ⟨rfl, b3⟩
      go_wp2
      go_ret
      exact ⟨rfl, (HB.out.step b3).bel⟩

/-! ### the row's step -/
set_option maxRecDepth 100000 in
theorem lifted (os : Os) (started : os.Started) (H : Type) (enc : TypeId × Value → H) :
    ReturnsInHanded {} Try.checked os 4 .any (Rows.levelPlaysSpec.pre6 enc Try.prog Try.f4 Rows.levelPlaysRow.domain false) (Rows.levelPlaysSpec.post enc Try.prog Try.f4 false true false false) := by
  refine returnsInHanded_of_change (C := Try.checked) own started (by kernel_rfl) Try.func4
    (ChangeSpec.witness6 (enc := enc) (C := Try.checked) false ⟨#[], #[.agg (Tab.Det.cells ⟨0, 0, 0, 0, 0, 0, 0⟩).toArray, .slice none 0 0], []⟩ 8 (by kernel_rfl) (by kernel_rfl) (by kernel_rfl) (by kernel_rfl)) ?_
  intro W base args ds gs before hval0 hW hcnd _
  have hval : ∀ (j : Nat) t v, Try.f4.params[j]? = some t → args[j]? = some v → Value.okWide Try.prog W .any base t v := hval0
  have hW' := hW
  obtain ⟨p, q, hA0, hV, rfl, hfz, hnd⟩ := hW
  have hA : DataW.TrodAll enc Try.prog W 0 (fun _ => true) true Try.f4.params.toList args.toList ds p := hA0
  rw [Try.params4] at hA hval
  obtain ⟨v0, vs0, d0, ds0, p0, q0, hargs, rfl, rfl, h0, r0⟩ := trodAll_cons hA
  obtain ⟨v1, vs1, d1, ds1, p1, q1, rfl, rfl, rfl, h1, r1⟩ := trodAll_cons r0
  obtain ⟨rfl, rfl, rfl⟩ := trodAll_nil r1
  obtain rfl : args = #[v0, v1] := by cases args; simp_all
  obtain ⟨rfl, rfl⟩ := trodVars_none hV
  obtain ⟨c0, rfl, _⟩ := okWide_struct Try.underlying24 (hval 0 24 v0 rfl rfl)
  have k0 := h0
  have lt0 : ∀ x ∈ p0, x.block < W.heap.size := by obtain ⟨m, hm⟩ := k0; exact DataW.trod_lt m _ _ _ hm
  obtain ⟨x0, e0⟩ : ∃ x : Tab.Det, c0 = x.cells.toArray := by
    obtain ⟨fuel, hf⟩ := h0
    obtain ⟨x, e⟩ := TabArg.det_el (Flat.trod_flat 4 _ _ TabArg.flD fuel _ _ hf)
    exact ⟨x, by rw [← e]; simp [Value.cells]⟩
  subst e0
  obtain ⟨a1, len1, cap1, rfl⟩ := okWide_slice Try.underlying31 (hval 1 31 v1 rfl rfl)
  have k1 := h1
  have lt1 : ∀ x ∈ p1, x.block < W.heap.size := by obtain ⟨m, hm⟩ := k1; exact DataW.trod_lt m _ _ _ hm
  obtain ⟨z1, w1⟩ : ∃ zs, Recs.IsFlts W a1 len1 cap1 zs := by
    obtain ⟨fuel, hf⟩ := h1
    exact Recs.open_flts Try.underlying31 Try.underlying22 (by kernel_rfl) hf
  clear hA0 hval0
  refine (walk x0 a1 len1 cap1 z1 W w1).mono fun e W' ⟨he, bel⟩ => ?_
  subst he
  exact ⟨_, rfl, _, _, _, [], _, [], hW', trodAll_mk1 (shut_bool Try.underlying4 _), (trodAll_cons_mk (Below.trod laidOut (by kernel_rfl) (of_decide_eq_true (by kernel_rfl)) k0 bel lt0) (trodAll_cons_mk (Below.trod laidOut (by kernel_rfl) (of_decide_eq_true (by kernel_rfl)) k1 bel lt1) trodAll_mk0)), rfl, bel.frame _, fun h => by cases h⟩

theorem over : Rows.levelPlaysRow.holds Try.pinned (OpenSpec.ofChange Rows.levelPlaysSpec) :=
  OpenClaim.holds_of_wide 4 Try.f4 rfl rfl rfl rfl rfl rfl rfl ⟨rfl, rfl, rfl, rfl, rfl⟩ rfl rfl rfl rfl rfl (by kernel_rfl) Try.func4 (by kernel_rfl)
    (of_decide_eq_true (by kernel_rfl)) (by unfold Func.isWrapper; first | (rw [if_pos (by decide +kernel)]; kernel_rfl) | (rw [if_neg (by decide +kernel)]; exact ⟨rfl, rfl⟩))
    (fun os started H enc _ => lifted os started H enc)

/-- the statement -/
theorem proved : Rows.LevelPlaysSaid :=
  over
#print axioms proved
end Go.Proofs.Ytolakjdikamffaa.levelPlays
