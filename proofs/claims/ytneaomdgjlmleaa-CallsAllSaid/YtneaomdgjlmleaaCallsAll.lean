/- CallsAll returns true at any table, any calls and any sets: Held, Step and Want of package calls answer as the document's own answers do. No condition. -/
import Derived.Test.YtneaomdgjlmleaaRows
import Derived.Test.YtneaomdgjlmleaaCaE
import Derived.Test.YtneaomdgjlmleaaTabArg
import Derived.Deep.Cut
import Derived.LoopTactic
import Derived.BigQuiet
import Derived.WalkKit
import Derived.WalkLawsBesides
import Derived.ProofKit
import Derived.OpenShut
import Derived.ShutString
import Derived.ChangeOld
import Derived.Below
namespace Go.Proofs.Ytneaomdgjlmleaa.callsAll
open Go.ChangeShapes Go.WideShapes Go.ChangeAt Go.RowKit
open Tab Cl QL
set_option linter.unusedVariables false
set_option linter.unusedSimpArgs false

theorem own : ownKnob Try.prog.godebug = none := by kernel_rfl
theorem laidOut : laidOutB Try.prog = true := by kernel_rfl

/-- WHAT THE WALK IS TOLD OF A SLICE OF INTEGERS THAT CAME IN: it is nil; or it leads to a row of 'cap' cells, the numbers 'zs' (the first 'len' are its elements, the rest its spare room), each fitting its kind. -/
def IsRow (k : IntKind) (w : World) (a : Option Addr) (len cap : Nat) (zs : List Int) : Prop :=
  (a = none ∧ len = 0 ∧ cap = 0 ∧ zs = []) ∨
  ∃ x, a = some x ∧ len ≤ cap ∧ cap ≤ maxLen ∧ zs.length = cap ∧ (∀ i, i < zs.length → w.cell? (x.add i) = some (.int k (zs.getD i 0))) ∧ ∀ n ∈ zs, (Lit.int k n).wf = true

/-! ### the walk -/
set_option maxRecDepth 100000 in
set_option maxHeartbeats 8000000 in
theorem walk (T0 : Tab.Tab) (H0 : Tab.Hd) (x1 : Cl.Ca) (a2 : Int) (a3 : Int) (a4 : Int) (a5 : Int) (w : World) (w0 : Tab.IsTab w H0 T0) (w2 : (Lit.int .i64 a2).wf = true) (w3 : (Lit.int .i64 a3).wf = true) (w4 : (Lit.int .i64 a4).wf = true) (w5 : (Lit.int .i64 a5).wf = true) :
    Calls Try.prog 3 #[.agg (T0.cells H0).toArray, .agg x1.cells.toArray, .int .i64 a2, .int .i64 a3, .int .i64 a4, .int .i64 a5] w fun e w' => e = .returned (.bool true) ∧ Below w.heap.size w w' := by
  obtain ⟨car, foot⟩ := x1
  simp only [Ca.cells]
  have IA : Hid ((Try.prog.info? 31).map (·.size) = some (T0.cells H0).length) := Lib.hid (by have := (cells_ok w0).size; rw [List.size_toArray] at this; rw [this]; exact May.infoT)
  obtain ⟨rh, E1, E2⟩ : ∃ r : Int, Hid (∀ W, Below w.heap.size w W → Calls Try.prog 11 #[.agg (T0.cells H0).toArray, .int .i64 a2] W fun e w' => e = .returned (.int .i64 r) ∧ Below W.heap.size W w') ∧ Hid (∀ W, Below w.heap.size w W → Calls Try.prog 12 #[.agg (T0.cells H0).toArray, .int .i64 a2] W fun e w' => e = .returned (.int .i64 r) ∧ Below W.heap.size W w') :=
    ⟨_, Lib.hid (fun W hb => held_any (w0.below hb) a2), Lib.hid (fun W hb => rheld_any (w0.below hb) a2)⟩
  obtain ⟨r1, r2, S1, S2⟩ : ∃ r1 r2 : Int, Hid (∀ W, Below w.heap.size w W → Calls Try.prog 13 #[.agg (T0.cells H0).toArray, .agg #[I car, I foot], .int .i64 a2, .int .i64 a3, .int .i64 a4, .int .i64 a5] W fun e w' => e = .returned (.agg #[I r1, I r2]) ∧ Below W.heap.size W w') ∧ Hid (∀ W, Below w.heap.size w W → Calls Try.prog 14 #[.agg (T0.cells H0).toArray, .agg #[I car, I foot], .int .i64 a2, .int .i64 a3, .int .i64 a4, .int .i64 a5] W fun e w' => e = .returned (.agg #[I r1, I r2]) ∧ Below W.heap.size W w') :=
    ⟨_, _, Lib.hid (fun W hb => step_any (w0.below hb) car foot a2 a3 a4 a5), Lib.hid (fun W hb => rcalls_any (w0.below hb) car foot a2 a3 a4 a5)⟩
  obtain ⟨rw_, W1, W2⟩ : ∃ r : Int, Hid (∀ W, Below w.heap.size w W → Calls Try.prog 15 #[.agg (T0.cells H0).toArray, .agg #[I car, I foot], .int .i64 a2] W fun e w' => e = .returned (.int .i64 r) ∧ Below W.heap.size W w') ∧ Hid (∀ W, Below w.heap.size w W → Calls Try.prog 16 #[.agg (T0.cells H0).toArray, .agg #[I car, I foot], .int .i64 a2] W fun e w' => e = .returned (.int .i64 r) ∧ Below W.heap.size W w') :=
    ⟨_, Lib.hid (fun W hb => want_any (w0.below hb) car foot a2), Lib.hid (fun W hb => rwant_any (w0.below hb) car foot a2)⟩
  clear w0
  generalize T0.cells H0 = c at *
  have h0 := ((Blk.Bks.nil w).alloc c.toArray 31).alloc #[I car, I foot] 33
  rw [show (w.alloc (.cells c.toArray 31)).heap.size = w.heap.size + 1 by simp] at h0
  go_enter Try.func3, Try.ntmps3
  go_upto_region 1 with fail
  generalize World.alloc (World.alloc w _) _ = u at h0 ⊢
  generalize hgc : w.heap.size + 1 = gc at h0 ⊢
  generalize w.heap.size = gt at h0 ⊢
  clear hgc
  have H0 := Lib.hid h0
  clear h0
  have P0 : Hid (∀ W, Below u.heap.size u W → Below w.heap.size w W) := Lib.hid (fun W b => H0.out.bel.trans (b.mono H0.out.bel.size))
  refine QB.region_below u.heap.size (by kernel_rfl) (by kernel_rfl) ?_
  repeat first
    | (refine wpQuiet_load rfl 31 _ rfl ⟨gt, 0, none⟩ rfl c _ (fun w' ⟨p, e⟩ => by rw [e]; have := Row.lies_of_block ((H0.out.by p).at 1 rfl); simpa using this) Try.underlying31 rfl IA.out ?_
       dsimp only [Act.put]
       simp only [List.setIfInBounds_toArray, List.set_cons_zero, List.set_cons_succ])
    | (refine wpQuiet_load rfl 33 _ rfl ⟨gc, 0, none⟩ rfl [I car, I foot] _ (fun w' ⟨p, e⟩ => by rw [e]; have := Row.lies_of_block ((H0.out.by p).at 0 rfl); simpa using this) Try.underlying33 rfl infoC2 ?_
       dsimp only [Act.put]
       simp only [List.setIfInBounds_toArray, List.set_cons_zero, List.set_cons_succ])
    | (refine wpQuiet_eql rfl 33 _ _ _ rfl #[I r1, I r2] #[I r1, I r2] rfl rfl guardK true (ca_eqs r1 r2) ?_
       dsimp only [Act.put]
       simp only [List.setIfInBounds_toArray, List.set_cons_zero, List.set_cons_succ])
    | (quiet_step (first
        | (go_at_call 11; with_reducible exact QB.call_of (Nat.le_refl _) (fun b => E1.out _ (P0.out _ b)))
        | (go_at_call 12; with_reducible exact QB.call_of (Nat.le_refl _) (fun b => E2.out _ (P0.out _ b)))
        | (go_at_call 13; with_reducible exact QB.call_of (Nat.le_refl _) (fun b => S1.out _ (P0.out _ b)))
        | (go_at_call 14; with_reducible exact QB.call_of (Nat.le_refl _) (fun b => S2.out _ (P0.out _ b)))
        | (go_at_call 15; with_reducible exact QB.call_of (Nat.le_refl _) (fun b => W1.out _ (P0.out _ b)))
        | (go_at_call 16; with_reducible exact QB.call_of (Nat.le_refl _) (fun b => W2.out _ (P0.out _ b)))
        | (go_at_call 17; with_reducible exact QB.call_of (Nat.le_refl _) (fun b => Cl.awake_any _))); try simp only [beq_self_eq_true])
  refine wpQuiet_nil ?_
  intro _ hw'
  obtain ⟨p, rfl⟩ := hw'
  have HP := Lib.hid (H0.out.by p)
  go_wp2
  go_ret
  exact ⟨rfl, HP.out.bel⟩

/-! ### the row's step -/
set_option maxRecDepth 100000 in
theorem lifted (os : Os) (started : os.Started) (H : Type) (enc : TypeId × Value → H) :
    ReturnsInHanded {} Try.checked os 3 .any (Rows.callsAllSpec.pre6 enc Try.prog Try.f3 Rows.callsAllRow.domain false) (Rows.callsAllSpec.post enc Try.prog Try.f3 false true false false) := by
  refine returnsInHanded_of_change (C := Try.checked) own started (by kernel_rfl) Try.func3
    (ChangeSpec.witness6 (enc := enc) (C := Try.checked) false ⟨#[], #[.agg (Clone.zTab.cells Clone.zHd).toArray, .agg (Cl.Ca.cells ⟨0, 0⟩).toArray, .int .i64 0, .int .i64 0, .int .i64 0, .int .i64 0], []⟩ 8 (by kernel_rfl) (by kernel_rfl) (by kernel_rfl) (by kernel_rfl)) ?_
  intro W base args ds gs before hval0 hW hcnd _
  have hval : ∀ (j : Nat) t v, Try.f3.params[j]? = some t → args[j]? = some v → Value.okWide Try.prog W .any base t v := hval0
  have hW' := hW
  obtain ⟨p, q, hA0, hV, rfl, hfz, hnd⟩ := hW
  have hA : DataW.TrodAll enc Try.prog W 0 (fun _ => true) true Try.f3.params.toList args.toList ds p := hA0
  rw [Try.params3] at hA hval
  obtain ⟨v0, vs0, d0, ds0, p0, q0, hargs, rfl, rfl, h0, r0⟩ := trodAll_cons hA
  obtain ⟨v1, vs1, d1, ds1, p1, q1, rfl, rfl, rfl, h1, r1⟩ := trodAll_cons r0
  obtain ⟨v2, vs2, d2, ds2, p2, q2, rfl, rfl, rfl, h2, r2⟩ := trodAll_cons r1
  obtain ⟨v3, vs3, d3, ds3, p3, q3, rfl, rfl, rfl, h3, r3⟩ := trodAll_cons r2
  obtain ⟨v4, vs4, d4, ds4, p4, q4, rfl, rfl, rfl, h4, r4⟩ := trodAll_cons r3
  obtain ⟨v5, vs5, d5, ds5, p5, q5, rfl, rfl, rfl, h5, r5⟩ := trodAll_cons r4
  obtain ⟨rfl, rfl, rfl⟩ := trodAll_nil r5
  obtain rfl : args = #[v0, v1, v2, v3, v4, v5] := by cases args; simp_all
  obtain ⟨rfl, rfl⟩ := trodVars_none hV
  obtain ⟨c0, rfl, _⟩ := okWide_struct Try.underlying31 (hval 0 31 v0 rfl rfl)
  have k0 := h0
  have lt0 : ∀ x ∈ p0, x.block < W.heap.size := by obtain ⟨m, hm⟩ := k0; exact DataW.trod_lt m _ _ _ hm
  obtain ⟨H0, T0, e0, w0⟩ : ∃ (h : Tab.Hd) (T : Tab.Tab), c0 = (T.cells h).toArray ∧ Tab.IsTab W h T := by
    obtain ⟨fuel, hf⟩ := h0
    obtain ⟨h, T, e, k⟩ := TabArg.open_tab hf
    exact ⟨h, T, by rw [← e]; simp [Value.cells], k⟩
  subst e0
  obtain ⟨c1, rfl, _⟩ := okWide_struct Try.underlying33 (hval 1 33 v1 rfl rfl)
  have k1 := h1
  have lt1 : ∀ x ∈ p1, x.block < W.heap.size := by obtain ⟨m, hm⟩ := k1; exact DataW.trod_lt m _ _ _ hm
  obtain ⟨x1, e1⟩ : ∃ x : Cl.Ca, c1 = x.cells.toArray := by
    obtain ⟨fuel, hf⟩ := h1
    obtain ⟨x, e⟩ := Cl.ca_el (Flat.trod_flat 4 _ _ Cl.flC fuel _ _ hf)
    exact ⟨x, by rw [← e]; simp [Value.cells]⟩
  subst e1
  obtain ⟨a2, rfl, rfl, rfl, w2⟩ := open_int Try.underlying3 (hval 2 3 v2 rfl rfl) h2
  obtain ⟨a3, rfl, rfl, rfl, w3⟩ := open_int Try.underlying3 (hval 3 3 v3 rfl rfl) h3
  obtain ⟨a4, rfl, rfl, rfl, w4⟩ := open_int Try.underlying3 (hval 4 3 v4 rfl rfl) h4
  obtain ⟨a5, rfl, rfl, rfl, w5⟩ := open_int Try.underlying3 (hval 5 3 v5 rfl rfl) h5
  clear hA0 hval0
  refine (walk T0 H0 x1 a2 a3 a4 a5 W w0 w2 w3 w4 w5).mono fun e W' ⟨he, bel⟩ => ?_
  subst he
  exact ⟨_, rfl, _, _, _, [], _, [], hW', trodAll_mk1 (shut_bool Try.underlying4 _), (trodAll_cons_mk (Below.trod laidOut (by kernel_rfl) (of_decide_eq_true (by kernel_rfl)) k0 bel lt0) (trodAll_cons_mk (Below.trod laidOut (by kernel_rfl) (of_decide_eq_true (by kernel_rfl)) k1 bel lt1) (trodAll_cons_mk (shut_int Try.underlying3 w2) (trodAll_cons_mk (shut_int Try.underlying3 w3) (trodAll_cons_mk (shut_int Try.underlying3 w4) (trodAll_cons_mk (shut_int Try.underlying3 w5) trodAll_mk0)))))), rfl, bel.frame _, fun h => by cases h⟩

theorem over : Rows.callsAllRow.holds Try.pinned (OpenSpec.ofChange Rows.callsAllSpec) :=
  OpenClaim.holds_of_wide 3 Try.f3 rfl rfl rfl rfl rfl rfl rfl ⟨rfl, rfl, rfl, rfl, rfl⟩ rfl rfl rfl rfl rfl (by kernel_rfl) Try.func3 (by kernel_rfl)
    (of_decide_eq_true (by kernel_rfl)) (by unfold Func.isWrapper; first | (rw [if_pos (by decide +kernel)]; kernel_rfl) | (rw [if_neg (by decide +kernel)]; exact ⟨rfl, rfl⟩))
    (fun os started H enc _ => lifted os started H enc)

/-- the statement -/
theorem proved : Rows.CallsAllSaid :=
  over
#print axioms proved
end Go.Proofs.Ytneaomdgjlmleaa.callsAll
