/- PhaseAll returns true at any phase, any run and any cue: Step, Held and Begin of package phase answer as the document's own answers do. No condition. -/
import Derived.Test.YtbpfknkbiaplpaaRows
import Derived.Test.YtbpfknkbiaplpaaPhw
import Derived.Test.YtbpfknkbiaplpaaPhq
import Derived.Test.YtbpfknkbiaplpaaFits
import Derived.Test.YtbpfknkbiaplpaaQT
import Derived.Test.YtbpfknkbiaplpaaArg
import Derived.Deep.Cut
import Derived.LoopTactic
import Derived.BigQuiet
import Derived.WalkKit
import Derived.WalkLawsBesides
import Derived.ProofKit
import Derived.OpenShut
import Derived.ShutString
import Derived.ChangeOld
import Derived.Below
namespace Go.Proofs.Ytbpfknkbiaplpaa.phaseAll
open Go.ChangeShapes Go.WideShapes Go.ChangeAt Go.RowKit
open Tab Ru QL
open May (infoP)
open Ped (infoFt)
open Gap (infoTn)
set_option linter.unusedVariables false
set_option linter.unusedSimpArgs false

theorem own : ownKnob Try.prog.godebug = none := by kernel_rfl
theorem laidOut : laidOutB Try.prog = true := by kernel_rfl

/-- WHAT THE WALK IS TOLD OF A SLICE OF INTEGERS THAT CAME IN: it is nil; or it leads to a row of 'cap' cells, the numbers 'zs' (the first 'len' are its elements, the rest its spare room), each fitting its kind. -/
def IsRow (k : IntKind) (w : World) (a : Option Addr) (len cap : Nat) (zs : List Int) : Prop :=
  (a = none ∧ len = 0 ∧ cap = 0 ∧ zs = []) ∨
  ∃ x, a = some x ∧ len ≤ cap ∧ cap ≤ maxLen ∧ zs.length = cap ∧ (∀ i, i < zs.length → w.cell? (x.add i) = some (.int k (zs.getD i 0))) ∧ ∀ n ∈ zs, (Lit.int k n).wf = true

/-! ### the walk -/
set_option maxRecDepth 100000 in
set_option maxHeartbeats 8000000 in
theorem walk (x0 : Tab.Ph) (x1 : Ru.Ru) (x2 : Ru.Cu) (w : World) :
    Calls Try.prog 3 #[.agg x0.cells.toArray, .agg x1.cells.toArray, .agg x2.cells.toArray] w fun e w' => e = .returned (.bool true) ∧ Below w.heap.size w w' := by
  generalize x0 = p at *
  generalize x1 = r at *
  generalize x2 = c at *
  obtain ⟨D, hD⟩ : ∃ D, stp p r c = D := ⟨_, rfl⟩
  obtain ⟨hh, hH⟩ : ∃ D, hld p r c = D := ⟨_, rfl⟩
  obtain ⟨B, hB⟩ : ∃ D, bgn p = D := ⟨_, rfl⟩
  have F1 : Hid (∀ W, Calls Try.prog 11 #[.agg p.cells.toArray, .agg r.cells.toArray, .agg c.cells.toArray] W fun e w' => e = .returned (.agg D.cells.toArray) ∧ Below W.heap.size W w') := Lib.hid (fun W => by rw [← hD]; exact step_any p r c W)
  have F2 : Hid (∀ W, Calls Try.prog 12 #[.agg p.cells.toArray, .agg r.cells.toArray, .agg c.cells.toArray] W fun e w' => e = .returned (.agg D.cells.toArray) ∧ Below W.heap.size W w') := Lib.hid (fun W => by rw [← hD]; exact rstep_any p r c W)
  have F3 : Hid (∀ W, Calls Try.prog 13 #[.agg p.cells.toArray, .agg r.cells.toArray, .agg c.cells.toArray] W fun e w' => e = .returned (.bool hh) ∧ Below W.heap.size W w') := Lib.hid (fun W => by rw [← hH]; exact held_any p r c W)
  have F4 : Hid (∀ W, Calls Try.prog 14 #[.agg p.cells.toArray, .agg r.cells.toArray, .agg c.cells.toArray] W fun e w' => e = .returned (.bool hh) ∧ Below W.heap.size W w') := Lib.hid (fun W => by rw [← hH]; exact kept_any p r c W)
  have F5 : Hid (∀ W, Calls Try.prog 15 #[.agg p.cells.toArray] W fun e w' => e = .returned (.agg B.cells.toArray) ∧ Below W.heap.size W w') := Lib.hid (fun W => by rw [← hB]; exact begin_any p W)
  have F6 : Hid (∀ W, Calls Try.prog 16 #[.agg p.cells.toArray] W fun e w' => e = .returned (.agg B.cells.toArray) ∧ Below W.heap.size W w') := Lib.hid (fun W => by rw [← hB]; exact rbegin_any p W)
  have FT : Hid (∀ W, ∃ fb : Bool, Calls Try.prog 9 #[.agg p.cells.toArray] W fun e w' => e = .returned (.bool fb) ∧ Below W.heap.size W w') := Lib.hid (fun W => ⟨_, Fits.fits_any p W⟩)
  clear hD hH hB
  have hn0 := Blk.Bks.nil w
  have hn1 := hn0.alloc p.cells.toArray 23
  have hn2 := hn1.alloc (Ru.cells r).toArray 29
  rw [show (w.alloc (.cells p.cells.toArray 23)).heap.size = w.heap.size + 1 by simp] at hn2
  have hn3 := hn2.alloc c.cells.toArray 31
  rw [show ((w.alloc (.cells p.cells.toArray 23)).alloc (.cells (Ru.cells r).toArray 29)).heap.size = w.heap.size + 1 + 1 by simp] at hn3
  clear hn0
  clear hn1
  clear hn2
  go_enter Try.func3, Try.ntmps3
  go_upto_region 1 with fail
  generalize World.alloc (World.alloc (World.alloc w _) _) _ = v at hn3 ⊢
  generalize hg2 : w.heap.size + 1 + 1 = gc at hn3 ⊢
  generalize hg1 : w.heap.size + 1 = gr at hn3 ⊢
  generalize hg0 : w.heap.size = gp at hn3 ⊢
  clear hg0 hg1 hg2
  have H0 := Lib.hid hn3
  clear hn3
  go_wp2_with (refine Row.wpList_load_g 23 _ rfl (by first | rfl | (go_simp; done) | fail) ⟨gp, 0, none⟩ rfl p.cells _ (seg H0.out 2 0 rfl _ rfl) Try.underlying23 rfl infoP ?_)
  obtain ⟨fb, hf⟩ := FT.out v
  refine hf.mono ?_
  rintro e v1 ⟨rfl, b1⟩
  have H1 := Lib.hid (H0.out.step b1)
  clear b1 H0 FT hf
  cases fb
  · go_wp2_with fail
    refine (awake_any _).mono ?_
    rintro e u9 ⟨rfl, b9⟩
    go_wp2
    go_ret
    exact ⟨rfl, (H1.out.step b9).bel⟩
  go_upto_region 3 with fail
  (try dsimp only [Act.put])
  refine QB.region_below v1.heap.size (by kernel_rfl) (by kernel_rfl) ?_
  repeat first
    | (refine wpQuiet_load rfl 23 _ rfl ⟨gp, 0, none⟩ rfl p.cells _ (fun w' ⟨pw, e⟩ => by rw [e]; exact seg (H1.out.by pw) 2 0 rfl _ rfl) Try.underlying23 rfl infoP ?_
       dsimp only [Act.put]
       simp only [List.setIfInBounds_toArray, List.set_cons_zero, List.set_cons_succ])
    | (refine wpQuiet_load rfl 29 _ rfl ⟨gr, 0, none⟩ rfl r.cells _ (fun w' ⟨pw, e⟩ => by rw [e]; exact seg (H1.out.by pw) 1 0 rfl _ rfl) Try.underlying29 rfl infoRu ?_
       dsimp only [Act.put]
       simp only [List.setIfInBounds_toArray, List.set_cons_zero, List.set_cons_succ])
    | (refine wpQuiet_load rfl 31 _ rfl ⟨gc, 0, none⟩ rfl c.cells _ (fun w' ⟨pw, e⟩ => by rw [e]; exact seg (H1.out.by pw) 0 0 rfl _ rfl) Try.underlying31 rfl infoCu ?_
       dsimp only [Act.put]
       simp only [List.setIfInBounds_toArray, List.set_cons_zero, List.set_cons_succ])
    | (refine wpQuiet_eql rfl 29 _ _ _ rfl D.cells.toArray D.cells.toArray rfl rfl guardRu true (ru_same _) ?_
       dsimp only [Act.put]
       simp only [List.setIfInBounds_toArray, List.set_cons_zero, List.set_cons_succ])
    | (refine wpQuiet_eql rfl 29 _ _ _ rfl B.cells.toArray B.cells.toArray rfl rfl guardRu true (ru_same _) ?_
       dsimp only [Act.put]
       simp only [List.setIfInBounds_toArray, List.set_cons_zero, List.set_cons_succ])
    | ((quiet_step (first | (go_at_call 11; with_reducible exact QB.call_of (Nat.le_refl _) (fun b => F1.out _)) | (go_at_call 12; with_reducible exact QB.call_of (Nat.le_refl _) (fun b => F2.out _)) | (go_at_call 13; with_reducible exact QB.call_of (Nat.le_refl _) (fun b => F3.out _)) | (go_at_call 14; with_reducible exact QB.call_of (Nat.le_refl _) (fun b => F4.out _)) | (go_at_call 15; with_reducible exact QB.call_of (Nat.le_refl _) (fun b => F5.out _)) | (go_at_call 16; with_reducible exact QB.call_of (Nat.le_refl _) (fun b => F6.out _)) | (go_at_call 10; with_reducible exact QB.call_of (Nat.le_refl _) (fun b => awake_any _))); try simp only [beq_self_eq_true]))
  refine wpQuiet_nil ?_
  intro _ hw'
  obtain ⟨pq, rfl⟩ := hw'
  have HP := Lib.hid (H1.out.by pq)
  go_wp2
  go_ret
  exact ⟨rfl, HP.out.bel⟩

/-! ### the row's step -/
set_option maxRecDepth 100000 in
theorem lifted (os : Os) (started : os.Started) (H : Type) (enc : TypeId × Value → H) :
    ReturnsInHanded {} Try.checked os 3 .any (Rows.phaseAllSpec.pre6 enc Try.prog Try.f3 Rows.phaseAllRow.domain false) (Rows.phaseAllSpec.post enc Try.prog Try.f3 false true false false) := by
  refine returnsInHanded_of_change (C := Try.checked) own started (by kernel_rfl) Try.func3
    (ChangeSpec.witness6 (enc := enc) (C := Try.checked) false ⟨#[], #[.agg (Tab.Ph.cells ⟨false, 0, 0, 0, 0, 0, 0, 0, 0, 0, 0, false, false⟩).toArray, .agg (Ru.Ru.cells ⟨0, 0, 0, 0, 0, 0, 0, false, false, 0, 0, 0⟩).toArray, .agg (Ru.Cu.cells ⟨false, false, false, false, false, false, false, false⟩).toArray], []⟩ 8 (by kernel_rfl) (by kernel_rfl) (by kernel_rfl) (by kernel_rfl)) ?_
  intro W base args ds gs before hval0 hW hcnd _
  have hval : ∀ (j : Nat) t v, Try.f3.params[j]? = some t → args[j]? = some v → Value.okWide Try.prog W .any base t v := hval0
  have hW' := hW
  obtain ⟨p, q, hA0, hV, rfl, hfz, hnd⟩ := hW
  have hA : DataW.TrodAll enc Try.prog W 0 (fun _ => true) true Try.f3.params.toList args.toList ds p := hA0
  rw [Try.params3] at hA hval
  obtain ⟨v0, vs0, d0, ds0, p0, q0, hargs, rfl, rfl, h0, r0⟩ := trodAll_cons hA
  obtain ⟨v1, vs1, d1, ds1, p1, q1, rfl, rfl, rfl, h1, r1⟩ := trodAll_cons r0
  obtain ⟨v2, vs2, d2, ds2, p2, q2, rfl, rfl, rfl, h2, r2⟩ := trodAll_cons r1
  obtain ⟨rfl, rfl, rfl⟩ := trodAll_nil r2
  obtain rfl : args = #[v0, v1, v2] := by cases args; simp_all
  obtain ⟨rfl, rfl⟩ := trodVars_none hV
  obtain ⟨c0, rfl, _⟩ := okWide_struct Try.underlying23 (hval 0 23 v0 rfl rfl)
  have k0 := h0
  have lt0 : ∀ x ∈ p0, x.block < W.heap.size := by obtain ⟨m, hm⟩ := k0; exact DataW.trod_lt m _ _ _ hm
  obtain ⟨x0, e0⟩ : ∃ x : Tab.Ph, c0 = x.cells.toArray := by
    obtain ⟨fuel, hf⟩ := h0
    obtain ⟨x, e⟩ := TabArg.ph_el (Flat.trod_flat 4 _ _ TabArg.flP fuel _ _ hf)
    exact ⟨x, by rw [← e]; simp [Value.cells]⟩
  subst e0
  obtain ⟨c1, rfl, _⟩ := okWide_struct Try.underlying29 (hval 1 29 v1 rfl rfl)
  have k1 := h1
  have lt1 : ∀ x ∈ p1, x.block < W.heap.size := by obtain ⟨m, hm⟩ := k1; exact DataW.trod_lt m _ _ _ hm
  obtain ⟨x1, e1⟩ : ∃ x : Ru.Ru, c1 = x.cells.toArray := by
    obtain ⟨fuel, hf⟩ := h1
    obtain ⟨x, e⟩ := Ru.ru_el (Flat.trod_flat 4 _ _ Ru.flRu fuel _ _ hf)
    exact ⟨x, by rw [← e]; simp [Value.cells]⟩
  subst e1
  obtain ⟨c2, rfl, _⟩ := okWide_struct Try.underlying31 (hval 2 31 v2 rfl rfl)
  have k2 := h2
  have lt2 : ∀ x ∈ p2, x.block < W.heap.size := by obtain ⟨m, hm⟩ := k2; exact DataW.trod_lt m _ _ _ hm
  obtain ⟨x2, e2⟩ : ∃ x : Ru.Cu, c2 = x.cells.toArray := by
    obtain ⟨fuel, hf⟩ := h2
    obtain ⟨x, e⟩ := Ru.cu_el (Flat.trod_flat 4 _ _ Ru.flCu fuel _ _ hf)
    exact ⟨x, by rw [← e]; simp [Value.cells]⟩
  subst e2
  clear hA0 hval0
  refine (walk x0 x1 x2 W).mono fun e W' ⟨he, bel⟩ => ?_
  subst he
  exact ⟨_, rfl, _, _, _, [], _, [], hW', trodAll_mk1 (shut_bool Try.underlying4 _), (trodAll_cons_mk (Below.trod laidOut (by kernel_rfl) (of_decide_eq_true (by kernel_rfl)) k0 bel lt0) (trodAll_cons_mk (Below.trod laidOut (by kernel_rfl) (of_decide_eq_true (by kernel_rfl)) k1 bel lt1) (trodAll_cons_mk (Below.trod laidOut (by kernel_rfl) (of_decide_eq_true (by kernel_rfl)) k2 bel lt2) trodAll_mk0))), rfl, bel.frame _, fun h => by cases h⟩

theorem over : Rows.phaseAllRow.holds Try.pinned (OpenSpec.ofChange Rows.phaseAllSpec) :=
  OpenClaim.holds_of_wide 3 Try.f3 rfl rfl rfl rfl rfl rfl rfl ⟨rfl, rfl, rfl, rfl, rfl⟩ rfl rfl rfl rfl rfl (by kernel_rfl) Try.func3 (by kernel_rfl)
    (of_decide_eq_true (by kernel_rfl)) (by unfold Func.isWrapper; first | (rw [if_pos (by decide +kernel)]; kernel_rfl) | (rw [if_neg (by decide +kernel)]; exact ⟨rfl, rfl⟩))
    (fun os started H enc _ => lifted os started H enc)

/-- the statement -/
theorem proved : Rows.PhaseAllSaid :=
  over
#print axioms proved
end Go.Proofs.Ytbpfknkbiaplpaa.phaseAll
