/- PedAll returns true at any phase, any state and any time: Step, Cut and Over of package ped answer as the document's own answers do. No condition. -/
import Derived.Test.YtbmkkkkknofbaaaRows
import Derived.Test.YtbmkkkkknofbaaaPedW
import Derived.Test.YtbmkkkkknofbaaaQT
import Derived.Test.YtbmkkkkknofbaaaArg
import Derived.Deep.Cut
import Derived.LoopTactic
import Derived.BigQuiet
import Derived.WalkKit
import Derived.WalkLawsBesides
import Derived.ProofKit
import Derived.OpenShut
import Derived.ShutString
import Derived.ChangeOld
import Derived.Below
namespace Go.Proofs.Ytbmkkkkknofbaaa.pedAll
open Go.ChangeShapes Go.WideShapes Go.ChangeAt Go.RowKit
open Tab Ped QL
open May (infoP)
set_option linter.unusedVariables false
set_option linter.unusedSimpArgs false

theorem own : ownKnob Try.prog.godebug = none := by kernel_rfl
theorem laidOut : laidOutB Try.prog = true := by kernel_rfl

/-- WHAT THE WALK IS TOLD OF A SLICE OF INTEGERS THAT CAME IN: it is nil; or it leads to a row of 'cap' cells, the numbers 'zs' (the first 'len' are its elements, the rest its spare room), each fitting its kind. -/
def IsRow (k : IntKind) (w : World) (a : Option Addr) (len cap : Nat) (zs : List Int) : Prop :=
  (a = none ∧ len = 0 ∧ cap = 0 ∧ zs = []) ∨
  ∃ x, a = some x ∧ len ≤ cap ∧ cap ≤ maxLen ∧ zs.length = cap ∧ (∀ i, i < zs.length → w.cell? (x.add i) = some (.int k (zs.getD i 0))) ∧ ∀ n ∈ zs, (Lit.int k n).wf = true

/-! ### the walk -/
set_option maxHeartbeats 4000000 in
theorem walk (x0 : Tab.Ph) (x1 : Ped.Ft) (a2 : Bool) (a3 : Int) (w : World) (w3 : (Lit.int .i64 a3).wf = true) :
    Calls Try.prog 3 #[.agg x0.cells.toArray, .agg x1.cells.toArray, .bool a2, .int .i64 a3] w fun e w' => e = .returned (.bool true) ∧ Below w.heap.size w w' := by
  obtain ⟨s, t⟩ := x1
  simp only [Ft.cells]
  generalize x0 = p at *
  have h0 := ((Blk.Bks.nil w).alloc p.cells.toArray 23).alloc #[I s, I t] 25
  rw [show (w.alloc (.cells p.cells.toArray 23)).heap.size = w.heap.size + 1 by simp] at h0
  obtain ⟨⟨a, b⟩, hs⟩ : ∃ r, ft p.walk p.blinks s t a2 = r := ⟨_, rfl⟩
  obtain ⟨⟨c, d⟩, hc⟩ : ∃ r, cu s t = r := ⟨_, rfl⟩
  obtain ⟨o, ho⟩ : ∃ r, ov s t a3 = r := ⟨_, rfl⟩
  have F1 : Hid (∀ W, Calls Try.prog 7 #[.agg p.cells.toArray, .agg #[I s, I t], .bool a2] W fun e w' => e = .returned (.agg #[I a, I b]) ∧ Below W.heap.size W w') := Lib.hid (fun W => step_is hs W)
  have F2 : Hid (∀ W, Calls Try.prog 8 #[.agg p.cells.toArray, .agg #[I s, I t], .bool a2] W fun e w' => e = .returned (.agg #[I a, I b]) ∧ Below W.heap.size W w') := Lib.hid (fun W => foot_is hs W)
  have F3 : Hid (∀ W, Calls Try.prog 9 #[.agg #[I s, I t]] W fun e w' => e = .returned (.agg #[I c, I d]) ∧ Below W.heap.size W w') := Lib.hid (fun W => cut_is hc W)
  have F4 : Hid (∀ W, Calls Try.prog 10 #[.agg #[I s, I t]] W fun e w' => e = .returned (.agg #[I c, I d]) ∧ Below W.heap.size W w') := Lib.hid (fun W => rcut_is hc W)
  have F5 : Hid (∀ W, Calls Try.prog 11 #[.agg #[I s, I t], .int .i64 a3] W fun e w' => e = .returned (.bool o) ∧ Below W.heap.size W w') := Lib.hid (fun W => by rw [← ho]; exact over_any s t a3 W)
  have F6 : Hid (∀ W, Calls Try.prog 12 #[.agg #[I s, I t], .int .i64 a3] W fun e w' => e = .returned (.bool o) ∧ Below W.heap.size W w') := Lib.hid (fun W => by rw [← ho]; exact rover_any s t a3 W)
  clear hs hc ho
  go_enter Try.func3, Try.ntmps3
  go_upto_region 1 with fail
  generalize World.alloc (World.alloc w _) _ = v at h0 ⊢
  generalize hgs : w.heap.size + 1 = gs at h0 ⊢
  generalize hgp : w.heap.size = gp at h0 ⊢
  clear hgs
  have H0 := Lib.hid h0
  clear h0
  refine QB.region_below v.heap.size (by kernel_rfl) (by kernel_rfl) ?_
  repeat first
    | (refine wpQuiet_load rfl 23 _ rfl ⟨gp, 0, none⟩ rfl p.cells _ (fun w' ⟨p, e⟩ => by rw [e]; have := Row.lies_of_block ((H0.out.by p).at 1 rfl); simpa using this) Try.underlying23 rfl infoP ?_
       dsimp only [Act.put]
       simp only [List.setIfInBounds_toArray, List.set_cons_zero, List.set_cons_succ])
    | (refine wpQuiet_load rfl 25 _ rfl ⟨gs, 0, none⟩ rfl [I s, I t] _ (fun w' ⟨p, e⟩ => by rw [e]; have := Row.lies_of_block ((H0.out.by p).at 0 rfl); simpa using this) Try.underlying25 rfl infoFt ?_
       dsimp only [Act.put]
       simp only [List.setIfInBounds_toArray, List.set_cons_zero, List.set_cons_succ])
    | (refine wpQuiet_eql rfl 25 _ _ _ rfl #[I a, I b] #[I a, I b] rfl rfl guardFt true (ft_same _ _) ?_
       dsimp only [Act.put]
       simp only [List.setIfInBounds_toArray, List.set_cons_zero, List.set_cons_succ])
    | (refine wpQuiet_eql rfl 25 _ _ _ rfl #[I c, I d] #[I c, I d] rfl rfl guardFt true (ft_same _ _) ?_
       dsimp only [Act.put]
       simp only [List.setIfInBounds_toArray, List.set_cons_zero, List.set_cons_succ])
    | (quiet_step (first
        | (go_at_call 7; with_reducible exact QB.call_of (Nat.le_refl _) (fun b => F1.out _))
        | (go_at_call 8; with_reducible exact QB.call_of (Nat.le_refl _) (fun b => F2.out _))
        | (go_at_call 9; with_reducible exact QB.call_of (Nat.le_refl _) (fun b => F3.out _))
        | (go_at_call 10; with_reducible exact QB.call_of (Nat.le_refl _) (fun b => F4.out _))
        | (go_at_call 11; with_reducible exact QB.call_of (Nat.le_refl _) (fun b => F5.out _))
        | (go_at_call 12; with_reducible exact QB.call_of (Nat.le_refl _) (fun b => F6.out _))
        | (go_at_call 13; with_reducible exact QB.call_of (Nat.le_refl _) (fun b => awake_any _))); try simp only [beq_self_eq_true])
  refine wpQuiet_nil ?_
  intro _ hw'
  obtain ⟨pq, rfl⟩ := hw'
  have HP := Lib.hid (H0.out.by pq)
  go_wp2
  go_ret

  exact ⟨rfl, HP.out.bel⟩

/-! ### the row's step -/
set_option maxRecDepth 100000 in
theorem lifted (os : Os) (started : os.Started) (H : Type) (enc : TypeId × Value → H) :
    ReturnsInHanded {} Try.checked os 3 .any (Rows.pedAllSpec.pre6 enc Try.prog Try.f3 Rows.pedAllRow.domain false) (Rows.pedAllSpec.post enc Try.prog Try.f3 false true false false) := by
  refine returnsInHanded_of_change (C := Try.checked) own started (by kernel_rfl) Try.func3
    (ChangeSpec.witness6 (enc := enc) (C := Try.checked) false ⟨#[], #[.agg (Tab.Ph.cells ⟨false, 0, 0, 0, 0, 0, 0, 0, 0, 0, 0, false, false⟩).toArray, .agg (Ped.Ft.cells ⟨0, 0⟩).toArray, .bool false, .int .i64 0], []⟩ 8 (by kernel_rfl) (by kernel_rfl) (by kernel_rfl) (by kernel_rfl)) ?_
  intro W base args ds gs before hval0 hW hcnd _
  have hval : ∀ (j : Nat) t v, Try.f3.params[j]? = some t → args[j]? = some v → Value.okWide Try.prog W .any base t v := hval0
  have hW' := hW
  obtain ⟨p, q, hA0, hV, rfl, hfz, hnd⟩ := hW
  have hA : DataW.TrodAll enc Try.prog W 0 (fun _ => true) true Try.f3.params.toList args.toList ds p := hA0
  rw [Try.params3] at hA hval
  obtain ⟨v0, vs0, d0, ds0, p0, q0, hargs, rfl, rfl, h0, r0⟩ := trodAll_cons hA
  obtain ⟨v1, vs1, d1, ds1, p1, q1, rfl, rfl, rfl, h1, r1⟩ := trodAll_cons r0
  obtain ⟨v2, vs2, d2, ds2, p2, q2, rfl, rfl, rfl, h2, r2⟩ := trodAll_cons r1
  obtain ⟨v3, vs3, d3, ds3, p3, q3, rfl, rfl, rfl, h3, r3⟩ := trodAll_cons r2
  obtain ⟨rfl, rfl, rfl⟩ := trodAll_nil r3
  obtain rfl : args = #[v0, v1, v2, v3] := by cases args; simp_all
  obtain ⟨rfl, rfl⟩ := trodVars_none hV
  obtain ⟨c0, rfl, _⟩ := okWide_struct Try.underlying23 (hval 0 23 v0 rfl rfl)
  have k0 := h0
  have lt0 : ∀ x ∈ p0, x.block < W.heap.size := by obtain ⟨m, hm⟩ := k0; exact DataW.trod_lt m _ _ _ hm
  obtain ⟨x0, e0⟩ : ∃ x : Tab.Ph, c0 = x.cells.toArray := by
    obtain ⟨fuel, hf⟩ := h0
    obtain ⟨x, e⟩ := TabArg.ph_el (Flat.trod_flat 4 _ _ TabArg.flP fuel _ _ hf)
    exact ⟨x, by rw [← e]; simp [Value.cells]⟩
  subst e0
  obtain ⟨c1, rfl, _⟩ := okWide_struct Try.underlying25 (hval 1 25 v1 rfl rfl)
  have k1 := h1
  have lt1 : ∀ x ∈ p1, x.block < W.heap.size := by obtain ⟨m, hm⟩ := k1; exact DataW.trod_lt m _ _ _ hm
  obtain ⟨x1, e1⟩ : ∃ x : Ped.Ft, c1 = x.cells.toArray := by
    obtain ⟨fuel, hf⟩ := h1
    obtain ⟨x, e⟩ := Ped.ft_el (Flat.trod_flat 4 _ _ Ped.flFt fuel _ _ hf)
    exact ⟨x, by rw [← e]; simp [Value.cells]⟩
  subst e1
  obtain ⟨a2, rfl, rfl, rfl⟩ := open_bool Try.underlying4 (hval 2 4 v2 rfl rfl) h2
  obtain ⟨a3, rfl, rfl, rfl, w3⟩ := open_int Try.underlying3 (hval 3 3 v3 rfl rfl) h3
  clear hA0 hval0
  refine (walk x0 x1 a2 a3 W w3).mono fun e W' ⟨he, bel⟩ => ?_
  subst he
  exact ⟨_, rfl, _, _, _, [], _, [], hW', trodAll_mk1 (shut_bool Try.underlying4 _), (trodAll_cons_mk (Below.trod laidOut (by kernel_rfl) (of_decide_eq_true (by kernel_rfl)) k0 bel lt0) (trodAll_cons_mk (Below.trod laidOut (by kernel_rfl) (of_decide_eq_true (by kernel_rfl)) k1 bel lt1) (trodAll_cons_mk (shut_bool Try.underlying4 _) (trodAll_cons_mk (shut_int Try.underlying3 w3) trodAll_mk0)))), rfl, bel.frame _, fun h => by cases h⟩

theorem over : Rows.pedAllRow.holds Try.pinned (OpenSpec.ofChange Rows.pedAllSpec) :=
  OpenClaim.holds_of_wide 3 Try.f3 rfl rfl rfl rfl rfl rfl rfl ⟨rfl, rfl, rfl, rfl, rfl⟩ rfl rfl rfl rfl rfl (by kernel_rfl) Try.func3 (by kernel_rfl)
    (of_decide_eq_true (by kernel_rfl)) (by unfold Func.isWrapper; first | (rw [if_pos (by decide +kernel)]; kernel_rfl) | (rw [if_neg (by decide +kernel)]; exact ⟨rfl, rfl⟩))
    (fun os started H enc _ => lifted os started H enc)

/-- the statement -/
theorem proved : Rows.PedAllSaid :=
  over
#print axioms proved
end Go.Proofs.Ytbmkkkkknofbaaa.pedAll
