/- GapAll returns true at any phase, any counts and any trend: Left, Begin and Limit of package gap answer as the document's own answers do. No condition. -/
import Derived.Test.YtldmmobgmfllkaaRows
import Derived.Test.YtldmmobgmfllkaaGapW
import Derived.Test.YtldmmobgmfllkaaGapR
import Derived.Test.YtldmmobgmfllkaaCloneB
import Derived.Test.YtldmmobgmfllkaaQT
import Derived.Test.YtldmmobgmfllkaaArg
import Derived.Deep.Cut
import Derived.LoopTactic
import Derived.BigQuiet
import Derived.WalkKit
import Derived.WalkLawsBesides
import Derived.ProofKit
import Derived.OpenShut
import Derived.ShutString
import Derived.ChangeOld
import Derived.Below
namespace Go.Proofs.Ytldmmobgmfllkaa.gapAll
open Go.ChangeShapes Go.WideShapes Go.ChangeAt Go.RowKit
open Tab Gap QL
open May (infoP)
set_option linter.unusedVariables false
set_option linter.unusedSimpArgs false

theorem own : ownKnob Try.prog.godebug = none := by kernel_rfl
theorem laidOut : laidOutB Try.prog = true := by kernel_rfl

/-- WHAT THE WALK IS TOLD OF A SLICE OF INTEGERS THAT CAME IN: it is nil; or it leads to a row of 'cap' cells, the numbers 'zs' (the first 'len' are its elements, the rest its spare room), each fitting its kind. -/
def IsRow (k : IntKind) (w : World) (a : Option Addr) (len cap : Nat) (zs : List Int) : Prop :=
  (a = none ∧ len = 0 ∧ cap = 0 ∧ zs = []) ∨
  ∃ x, a = some x ∧ len ≤ cap ∧ cap ≤ maxLen ∧ zs.length = cap ∧ (∀ i, i < zs.length → w.cell? (x.add i) = some (.int k (zs.getD i 0))) ∧ ∀ n ∈ zs, (Lit.int k n).wf = true

/-! ### the walk -/
set_option maxHeartbeats 4000000 in
theorem walk (x0 : Tab.Ph) (a1 : Int) (a2 : Bool) (x3 : Gap.Tn) (w : World) (w1 : (Lit.int .i64 a1).wf = true) :
    Calls Try.prog 3 #[.agg x0.cells.toArray, .int .i64 a1, .bool a2, .agg x3.cells.toArray] w fun e w' => e = .returned (.bool true) ∧ Below w.heap.size w w' := by
  obtain ⟨n, u, d⟩ := x3
  simp only [Tn.cells]
  generalize x0 = p at *
  have h0 := ((Blk.Bks.nil w).alloc p.cells.toArray 23).alloc #[I n, I u, I d] 25
  rw [show (w.alloc (.cells p.cells.toArray 23)).heap.size = w.heap.size + 1 by simp] at h0
  obtain ⟨r1, hr1⟩ : ∃ r, lf p.gap a1 a2 = r := ⟨_, rfl⟩
  obtain ⟨r2, hr2⟩ : ∃ r, lm p n = r := ⟨_, rfl⟩
  have F1 : Hid (∀ W, Calls Try.prog 7 #[.agg p.cells.toArray, .int .i64 a1, .bool a2] W fun e w' => e = .returned (.int .i64 r1) ∧ Below W.heap.size W w') := Lib.hid (fun W => by rw [← hr1]; exact left_any p a1 a2 W)
  have F2 : Hid (∀ W, Calls Try.prog 8 #[.agg p.cells.toArray, .int .i64 a1, .bool a2] W fun e w' => e = .returned (.int .i64 r1) ∧ Below W.heap.size W w') := Lib.hid (fun W => by rw [← hr1]; exact rleft_any p a1 a2 W)
  have F3 : Hid (∀ W, Calls Try.prog 9 #[.agg p.cells.toArray] W fun e w' => e = .returned (.agg #[I p.max, I 0, I 0]) ∧ Below W.heap.size W w') := Lib.hid (fun W => begin_any p W)
  have F4 : Hid (∀ W, Calls Try.prog 10 #[.agg p.cells.toArray, .agg #[I n, I u, I d]] W fun e w' => e = .returned (.int .i64 r2) ∧ Below W.heap.size W w') := Lib.hid (fun W => by rw [← hr2]; exact lim_any p n u d W)
  have F5 : Hid (∀ W, Calls Try.prog 11 #[.agg p.cells.toArray, .agg #[I n, I u, I d]] W fun e w' => e = .returned (.int .i64 r2) ∧ Below W.heap.size W w') := Lib.hid (fun W => by rw [← hr2]; exact rlim_any p n u d W)
  clear hr1 hr2
  go_enter Try.func3, Try.ntmps3
  go_upto_region 1 with fail
  generalize World.alloc (World.alloc w _) _ = v at h0 ⊢
  generalize hgs : w.heap.size + 1 = gs at h0 ⊢
  generalize hgp : w.heap.size = gp at h0 ⊢
  clear hgs
  have H0 := Lib.hid h0
  have k3 : ∀ q : QB.By v.heap.size v, q.world.cell? ⟨gp, 3, none⟩ = some (I p.max) := fun q => (h0.by q).cell 1 3 rfl rfl
  clear h0
  refine QB.region_below v.heap.size (by kernel_rfl) (by kernel_rfl) ?_
  repeat first
    | (refine wpQuiet_load rfl 23 _ rfl ⟨gp, 0, none⟩ rfl p.cells _ (fun w' ⟨p, e⟩ => by rw [e]; have := Row.lies_of_block ((H0.out.by p).at 1 rfl); simpa using this) Try.underlying23 rfl infoP ?_
       dsimp only [Act.put]
       simp only [List.setIfInBounds_toArray, List.set_cons_zero, List.set_cons_succ])
    | (refine wpQuiet_load rfl 25 _ rfl ⟨gs, 0, none⟩ rfl [I n, I u, I d] _ (fun w' ⟨p, e⟩ => by rw [e]; have := Row.lies_of_block ((H0.out.by p).at 0 rfl); simpa using this) Try.underlying25 rfl infoTn ?_
       dsimp only [Act.put]
       simp only [List.setIfInBounds_toArray, List.set_cons_zero, List.set_cons_succ])
    | (refine wpQuiet_eql rfl 25 _ _ _ rfl #[I p.max, I 0, I 0] #[I p.max, I 0, I 0] rfl rfl guardTn true (tn_eqs _ _ _) ?_
       dsimp only [Act.put]
       simp only [List.setIfInBounds_toArray, List.set_cons_zero, List.set_cons_succ])
    | (quiet_step (first
        | (go_at_call 7; with_reducible exact QB.call_of (Nat.le_refl _) (fun b => F1.out _))
        | (go_at_call 8; with_reducible exact QB.call_of (Nat.le_refl _) (fun b => F2.out _))
        | (go_at_call 9; with_reducible exact QB.call_of (Nat.le_refl _) (fun b => F3.out _))
        | (go_at_call 10; with_reducible exact QB.call_of (Nat.le_refl _) (fun b => F4.out _))
        | (go_at_call 11; with_reducible exact QB.call_of (Nat.le_refl _) (fun b => F5.out _))
        | (go_at_call 12; with_reducible exact QB.call_of (Nat.le_refl _) (fun b => awake_any _))); try simp only [beq_self_eq_true])
  refine wpQuiet_nil ?_
  intro _ hw'
  obtain ⟨pq, rfl⟩ := hw'
  have HP := Lib.hid (H0.out.by pq)
  go_wp2
  go_ret

  exact ⟨rfl, HP.out.bel⟩

/-! ### the row's step -/
set_option maxRecDepth 100000 in
theorem lifted (os : Os) (started : os.Started) (H : Type) (enc : TypeId × Value → H) :
    ReturnsInHanded {} Try.checked os 3 .any (Rows.gapAllSpec.pre6 enc Try.prog Try.f3 Rows.gapAllRow.domain false) (Rows.gapAllSpec.post enc Try.prog Try.f3 false true false false) := by
  refine returnsInHanded_of_change (C := Try.checked) own started (by kernel_rfl) Try.func3
    (ChangeSpec.witness6 (enc := enc) (C := Try.checked) false ⟨#[], #[.agg Clone.zPh.cells.toArray, .int .i64 0, .bool false, .agg (Gap.Tn.cells ⟨0, 0, 0⟩).toArray], []⟩ 8 (by kernel_rfl) (by kernel_rfl) (by kernel_rfl) (by kernel_rfl)) ?_
  intro W base args ds gs before hval0 hW hcnd _
  have hval : ∀ (j : Nat) t v, Try.f3.params[j]? = some t → args[j]? = some v → Value.okWide Try.prog W .any base t v := hval0
  have hW' := hW
  obtain ⟨p, q, hA0, hV, rfl, hfz, hnd⟩ := hW
  have hA : DataW.TrodAll enc Try.prog W 0 (fun _ => true) true Try.f3.params.toList args.toList ds p := hA0
  rw [Try.params3] at hA hval
  obtain ⟨v0, vs0, d0, ds0, p0, q0, hargs, rfl, rfl, h0, r0⟩ := trodAll_cons hA
  obtain ⟨v1, vs1, d1, ds1, p1, q1, rfl, rfl, rfl, h1, r1⟩ := trodAll_cons r0
  obtain ⟨v2, vs2, d2, ds2, p2, q2, rfl, rfl, rfl, h2, r2⟩ := trodAll_cons r1
  obtain ⟨v3, vs3, d3, ds3, p3, q3, rfl, rfl, rfl, h3, r3⟩ := trodAll_cons r2
  obtain ⟨rfl, rfl, rfl⟩ := trodAll_nil r3
  obtain rfl : args = #[v0, v1, v2, v3] := by cases args; simp_all
  obtain ⟨rfl, rfl⟩ := trodVars_none hV
  obtain ⟨c0, rfl, _⟩ := okWide_struct Try.underlying23 (hval 0 23 v0 rfl rfl)
  have k0 := h0
  have lt0 : ∀ x ∈ p0, x.block < W.heap.size := by obtain ⟨m, hm⟩ := k0; exact DataW.trod_lt m _ _ _ hm
  obtain ⟨x0, e0⟩ : ∃ x : Tab.Ph, c0 = x.cells.toArray := by
    obtain ⟨fuel, hf⟩ := h0
    obtain ⟨x, e⟩ := TabArg.ph_el (Flat.trod_flat 4 _ _ TabArg.flP fuel _ _ hf)
    exact ⟨x, by rw [← e]; simp [Value.cells]⟩
  subst e0
  obtain ⟨a1, rfl, rfl, rfl, w1⟩ := open_int Try.underlying3 (hval 1 3 v1 rfl rfl) h1
  obtain ⟨a2, rfl, rfl, rfl⟩ := open_bool Try.underlying4 (hval 2 4 v2 rfl rfl) h2
  obtain ⟨c3, rfl, _⟩ := okWide_struct Try.underlying25 (hval 3 25 v3 rfl rfl)
  have k3 := h3
  have lt3 : ∀ x ∈ p3, x.block < W.heap.size := by obtain ⟨m, hm⟩ := k3; exact DataW.trod_lt m _ _ _ hm
  obtain ⟨x3, e3⟩ : ∃ x : Gap.Tn, c3 = x.cells.toArray := by
    obtain ⟨fuel, hf⟩ := h3
    obtain ⟨x, e⟩ := Gap.tn_el (Flat.trod_flat 4 _ _ Gap.flTn fuel _ _ hf)
    exact ⟨x, by rw [← e]; simp [Value.cells]⟩
  subst e3
  clear hA0 hval0
  refine (walk x0 a1 a2 x3 W w1).mono fun e W' ⟨he, bel⟩ => ?_
  subst he
  exact ⟨_, rfl, _, _, _, [], _, [], hW', trodAll_mk1 (shut_bool Try.underlying4 _), (trodAll_cons_mk (Below.trod laidOut (by kernel_rfl) (of_decide_eq_true (by kernel_rfl)) k0 bel lt0) (trodAll_cons_mk (shut_int Try.underlying3 w1) (trodAll_cons_mk (shut_bool Try.underlying4 _) (trodAll_cons_mk (Below.trod laidOut (by kernel_rfl) (of_decide_eq_true (by kernel_rfl)) k3 bel lt3) trodAll_mk0)))), rfl, bel.frame _, fun h => by cases h⟩

theorem over : Rows.gapAllRow.holds Try.pinned (OpenSpec.ofChange Rows.gapAllSpec) :=
  OpenClaim.holds_of_wide 3 Try.f3 rfl rfl rfl rfl rfl rfl rfl ⟨rfl, rfl, rfl, rfl, rfl⟩ rfl rfl rfl rfl rfl (by kernel_rfl) Try.func3 (by kernel_rfl)
    (of_decide_eq_true (by kernel_rfl)) (by unfold Func.isWrapper; first | (rw [if_pos (by decide +kernel)]; kernel_rfl) | (rw [if_neg (by decide +kernel)]; exact ⟨rfl, rfl⟩))
    (fun os started H enc _ => lifted os started H enc)

/-- the statement -/
theorem proved : Rows.GapAllSaid :=
  over
#print axioms proved
end Go.Proofs.Ytldmmobgmfllkaa.gapAll
