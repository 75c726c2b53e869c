/- TableAll returns true at any two tables: May and Same return what the document's own return, Same is symmetric, and a clone is the same. No condition. -/
import Derived.Test.YtpofccenoobojaaRows
import Derived.Test.YtpofccenoobojaaTwa
import Derived.Test.YtpofccenoobojaaSameG
import Derived.Test.YtpofccenoobojaaLight
import Derived.Test.YtpofccenoobojaaTabArg
import Derived.Test.YtpofccenoobojaaPw
import Derived.Deep.Cut
import Derived.WalkKit
import Derived.WalkLawsBesides
import Derived.ProofKit
import Derived.OpenShut
import Derived.ShutString
import Derived.ChangeOld
import Derived.Below
namespace Go.Proofs.Ytpofccenoobojaa.tableAll
open Go.ChangeShapes Go.WideShapes Go.ChangeAt Go.RowKit
open Tab Clone Owned
open May (infoT)
set_option linter.unusedVariables false
set_option linter.unusedSimpArgs false

theorem own : ownKnob Try.prog.godebug = none := by kernel_rfl
theorem laidOut : laidOutB Try.prog = true := by kernel_rfl

/-- WHAT THE WALK IS TOLD OF A SLICE OF INTEGERS THAT CAME IN: it is nil; or it leads to a row of 'cap' cells, the numbers 'zs' (the first 'len' are its elements, the rest its spare room), each fitting its kind. -/
def IsRow (k : IntKind) (w : World) (a : Option Addr) (len cap : Nat) (zs : List Int) : Prop :=
  (a = none ∧ len = 0 ∧ cap = 0 ∧ zs = []) ∨
  ∃ x, a = some x ∧ len ≤ cap ∧ cap ≤ maxLen ∧ zs.length = cap ∧ (∀ i, i < zs.length → w.cell? (x.add i) = some (.int k (zs.getD i 0))) ∧ ∀ n ∈ zs, (Lit.int k n).wf = true

theorem to_list {α : Type} (l : List α) : l.toArray.toList = l := rfl

/-! ### the walk -/
set_option maxRecDepth 10000 in
set_option maxHeartbeats 8000000 in
theorem walk (T0 : Tab.Tab) (H0 : Tab.Hd) (T1 : Tab.Tab) (H1 : Tab.Hd) (w : World) (w0 : Tab.IsTab w H0 T0) (w1 : Tab.IsTab w H1 T1) :
    Calls Try.prog 3 #[.agg (T0.cells H0).toArray, .agg (T1.cells H1).toArray] w fun e w' => e = .returned (.bool true) ∧ Below w.heap.size w w' := by
  have W0 : Hid (∀ W, Below w.heap.size w W → IsTab W H0 T0) := Lib.hid (fun W hb => w0.below hb)
  have W1 : Hid (∀ W, Below w.heap.size w W → IsTab W H1 T1) := Lib.hid (fun W hb => w1.below hb)
  have hz1 := (cells_ok w0).size
  have hz2 := (cells_ok w1).size
  have IA : Hid ((Try.prog.info? 31).map (·.size) = some (T0.cells H0).length) := Lib.hid (by rw [List.size_toArray] at hz1; rw [hz1]; exact infoT)
  have IB : Hid ((Try.prog.info? 31).map (·.size) = some (T1.cells H1).length) := Lib.hid (by rw [List.size_toArray] at hz2; rw [hz2]; exact infoT)
  have L1 : Hid (∀ W, Below w.heap.size w W → Calls Try.prog 6 #[.agg (T0.cells H0).toArray] W fun e w' => e = .returned (.bool (decide (Light.IsLight T0))) ∧ Below W.heap.size W w') := Lib.hid (fun W hb => Light.light_any T0 H0 W (W0.out W hb))
  have L2 : Hid (∀ W, Below w.heap.size w W → Calls Try.prog 6 #[.agg (T1.cells H1).toArray] W fun e w' => e = .returned (.bool (decide (Light.IsLight T1))) ∧ Below W.heap.size W w') := Lib.hid (fun W hb => Light.light_any T1 H1 W (W1.out W hb))
  obtain ⟨b, M1, M2, M3⟩ : ∃ b : Bool, Hid (∀ W, Below w.heap.size w W → Calls Try.prog 8 #[.agg (T0.cells H0).toArray, .agg (T1.cells H1).toArray] W fun e w' => e = .returned (.bool b) ∧ Below W.heap.size W w')
      ∧ Hid (∀ W, Below w.heap.size w W → Calls Try.prog 9 #[.agg (T0.cells H0).toArray, .agg (T1.cells H1).toArray] W fun e w' => e = .returned (.bool b) ∧ Below W.heap.size W w')
      ∧ Hid (∀ W, Below w.heap.size w W → Calls Try.prog 8 #[.agg (T1.cells H1).toArray, .agg (T0.cells H0).toArray] W fun e w' => e = .returned (.bool b) ∧ Below W.heap.size W w') :=
    ⟨decide (T0 = T1), Lib.hid (fun W hb => Same.same_any T0 T1 H0 H1 W (W0.out W hb) (W1.out W hb)), Lib.hid (fun W hb => Same.rsame_any T0 T1 H0 H1 W (W0.out W hb) (W1.out W hb)), Lib.hid (fun W hb => by
      have := Same.same_any T1 T0 H1 H0 W (W1.out W hb) (W0.out W hb)
      rwa [show decide (T1 = T0) = decide (T0 = T1) from by
        by_cases e : T0 = T1
        · rw [decide_eq_true e, decide_eq_true e.symm]
        · rw [decide_eq_false e, decide_eq_false (fun q => e q.symm)]] at this)⟩
  obtain ⟨m, M4, M5⟩ : ∃ m : Bool, Hid (∀ W, Below w.heap.size w W → Calls Try.prog 10 #[.agg (T0.cells H0).toArray] W fun e w' => e = .returned (.bool m) ∧ Below W.heap.size W w')
      ∧ Hid (∀ W, Below w.heap.size w W → Calls Try.prog 11 #[.agg (T0.cells H0).toArray] W fun e w' => e = .returned (.bool m) ∧ Below W.heap.size W w') :=
    ⟨May.tabMay T0, Lib.hid (fun W hb => May.may_any T0 H0 W (W0.out W hb)), Lib.hid (fun W hb => May.rmay_any T0 H0 W (W0.out W hb))⟩
  have M6 : Hid (Small T0 → ∀ W, Below w.heap.size w W → Calls Try.prog 12 #[.agg (T0.cells H0).toArray] W fun e w' => ∃ c : List Value, e = .returned (.agg c.toArray) ∧ Below W.heap.size W w' ∧ Hid (∀ W', Below w'.heap.size w' W' → Calls Try.prog 9 #[.agg c.toArray, .agg (T0.cells H0).toArray] W' fun e w' => e = .returned (.bool true) ∧ Below W'.heap.size W' w')) := Lib.hid (fun sm W hb => by
    have kt := W0.out W hb
    refine (clone_any T0 H0 W kt sm).mono ?_
    rintro e w' ⟨ns, G, D, R, S, rfl, hnd, hown, hb'⟩
    have hk := is_tab kt.ph kt.cf kt.fl sm hnd hown
    refine ⟨_, rfl, hb', Lib.hid (fun W' hb2 => ?_)⟩
    have := Same.rsame_any T0 T0 _ H0 W' (hk.below hb2) (kt.below (hb'.trans (hb2.mono hb'.size)))
    rwa [decide_eq_true rfl] at this)
  have A0 : Hid (Below w.heap.size w ((w.alloc (.cells (T0.cells H0).toArray 31)).alloc (.cells (T1.cells H1).toArray 31))) := Lib.hid (((Below.refl _ _).alloc (Nat.le_refl _) _).alloc (by simp) _)
  have A1 : Hid (Lies ((w.alloc (.cells (T0.cells H0).toArray 31)).alloc (.cells (T1.cells H1).toArray 31)) ⟨w.heap.size, 0, none⟩ (T0.cells H0)) := Lib.hid (Row.lies_of_block (heap_alloc2_old w _ _))
  have A2 : Hid (Lies ((w.alloc (.cells (T0.cells H0).toArray 31)).alloc (.cells (T1.cells H1).toArray 31)) ⟨w.heap.size + 1, 0, none⟩ (T1.cells H1)) := Lib.hid (Row.lies_of_block (heap_alloc2_new w _ _))
  clear W0 W1 w0 w1
  generalize T0.cells H0 = c at *
  generalize T1.cells H1 = d at *
  go_enter Try.func3, Try.ntmps3
  go_upto_region 1 with fail
  generalize (w.alloc (.cells c.toArray 31)).alloc (.cells d.toArray 31) = u at A0 A1 A2 ⊢
  clear hz1 hz2
  go_step
  refine Row.wpList_load_g 31 _ rfl (by rfl) ⟨w.heap.size, 0, none⟩ rfl c _ A1.out Try.underlying31 rfl IA.out ?_
  (try dsimp only [Act.put]); (try simp only [List.setIfInBounds_toArray, List.set_cons_zero, List.set_cons_succ])
  go_wp2_with fail
  refine (L1.out _ A0.out).mono ?_
  rintro e u1 ⟨rfl, hb⟩
  have B0 : Hid (Below w.heap.size w u1) := Lib.hid (A0.out.trans (hb.mono A0.out.size))
  have B1 := Lib.hid (A1.out.below hb)
  have B2 := Lib.hid (A2.out.below hb)
  clear hb A0 A1 A2
  by_cases hl : Light.IsLight T0
  rotate_left
  · rw [decide_eq_false hl]
    clear hl
    go_wp2_with fail
    refine (Wa.awake_any _).mono ?_
    rintro e u2 ⟨rfl, hb⟩
    have E := Lib.hid (B0.out.trans (hb.mono B0.out.size))
    clear hb
    go_wp2
    go_ret
    exact ⟨rfl, E.out⟩
  rw [decide_eq_true hl]
  have SM := Lib.hid hl.small
  clear hl
  go_wp2_with (refine Row.wpList_load_g 31 _ rfl (by first | rfl | go_simp) ⟨w.heap.size + 1, 0, none⟩ rfl d _ B2.out Try.underlying31 rfl IB.out ?_)
  refine (L2.out _ B0.out).mono ?_
  rintro e u2 ⟨rfl, hb⟩
  have A0 : Hid (Below w.heap.size w u2) := Lib.hid (B0.out.trans (hb.mono B0.out.size))
  have A1 := Lib.hid (B1.out.below hb)
  have A2 := Lib.hid (B2.out.below hb)
  clear hb B0 B1 B2
  by_cases hl : Light.IsLight T1
  rotate_left
  · rw [decide_eq_false hl]
    clear hl
    go_wp2_with fail
    refine (Wa.awake_any _).mono ?_
    rintro e u2 ⟨rfl, hb⟩
    have E := Lib.hid (A0.out.trans (hb.mono A0.out.size))
    clear hb
    go_wp2
    go_ret
    exact ⟨rfl, E.out⟩
  rw [decide_eq_true hl]
  clear hl
  go_upto_region 3 with fail
  have hne : Nonempty (Ph.S (Row.Old u2)) := ⟨⟨0, u2, Below.refl _ _⟩⟩
  have P0 : Hid (∀ p : Ph.S (Row.Old u2), Below w.heap.size w p.world) := Lib.hid (fun p => A0.out.trans (p.is.mono A0.out.size))
  refine Pw.region (Row.Old u2) [] (by kernel_rfl) (by kernel_rfl) (Row.Old.drew _) ?_
  refine Pw.load rfl (by rfl) 31 _ rfl ⟨w.heap.size, 0, none⟩ rfl c _ (fun p => A1.out.below p.is) Try.underlying31 rfl IA.out ?_
  (try dsimp only [Act.put]); (try simp only [List.setIfInBounds_toArray, List.set_cons_zero, List.set_cons_succ])
  refine Pw.load rfl (by rfl) 31 _ rfl ⟨w.heap.size + 1, 0, none⟩ rfl d _ (fun p => A2.out.below p.is) Try.underlying31 rfl IB.out ?_
  (try dsimp only [Act.put]); (try simp only [List.setIfInBounds_toArray, List.set_cons_zero, List.set_cons_succ])
  (refine Pw.calm rfl (fun K hK => ?_)
   go_simp
   refine ⟨_, fun p => Row.Old.call (M1.out _ (P0.out p)), hK _ ?_⟩
   clear hK K)
  refine Pw.load rfl (by rfl) 31 _ rfl ⟨w.heap.size, 0, none⟩ rfl c _ (fun p => A1.out.below p.is) Try.underlying31 rfl IA.out ?_
  (try dsimp only [Act.put]); (try simp only [List.setIfInBounds_toArray, List.set_cons_zero, List.set_cons_succ])
  refine Pw.load rfl (by rfl) 31 _ rfl ⟨w.heap.size + 1, 0, none⟩ rfl d _ (fun p => A2.out.below p.is) Try.underlying31 rfl IB.out ?_
  (try dsimp only [Act.put]); (try simp only [List.setIfInBounds_toArray, List.set_cons_zero, List.set_cons_succ])
  (refine Pw.calm rfl (fun K hK => ?_)
   go_simp
   refine ⟨_, fun p => Row.Old.call (M2.out _ (P0.out p)), hK _ ?_⟩
   clear hK K)
  iterate 1
    (refine Pw.calm rfl (fun K hK => ?_)
     go_simp
     refine hK _ ?_
     clear hK K)
  (try simp only [beq_self_eq_true])
  iterate 1
    (refine Pw.calm rfl (fun K hK => ?_)
     go_simp
     refine hK _ ?_
     clear hK K)
  refine Pw.load rfl (by rfl) 31 _ rfl ⟨w.heap.size + 1, 0, none⟩ rfl d _ (fun p => A2.out.below p.is) Try.underlying31 rfl IB.out ?_
  (try dsimp only [Act.put]); (try simp only [List.setIfInBounds_toArray, List.set_cons_zero, List.set_cons_succ])
  refine Pw.load rfl (by rfl) 31 _ rfl ⟨w.heap.size, 0, none⟩ rfl c _ (fun p => A1.out.below p.is) Try.underlying31 rfl IA.out ?_
  (try dsimp only [Act.put]); (try simp only [List.setIfInBounds_toArray, List.set_cons_zero, List.set_cons_succ])
  (refine Pw.calm rfl (fun K hK => ?_)
   go_simp
   refine ⟨_, fun p => Row.Old.call (M3.out _ (P0.out p)), hK _ ?_⟩
   clear hK K)
  refine Pw.load rfl (by rfl) 31 _ rfl ⟨w.heap.size, 0, none⟩ rfl c _ (fun p => A1.out.below p.is) Try.underlying31 rfl IA.out ?_
  (try dsimp only [Act.put]); (try simp only [List.setIfInBounds_toArray, List.set_cons_zero, List.set_cons_succ])
  refine Pw.load rfl (by rfl) 31 _ rfl ⟨w.heap.size + 1, 0, none⟩ rfl d _ (fun p => A2.out.below p.is) Try.underlying31 rfl IB.out ?_
  (try dsimp only [Act.put]); (try simp only [List.setIfInBounds_toArray, List.set_cons_zero, List.set_cons_succ])
  (refine Pw.calm rfl (fun K hK => ?_)
   go_simp
   refine ⟨_, fun p => Row.Old.call (M1.out _ (P0.out p)), hK _ ?_⟩
   clear hK K)
  iterate 1
    (refine Pw.calm rfl (fun K hK => ?_)
     go_simp
     refine hK _ ?_
     clear hK K)
  (try simp only [beq_self_eq_true])
  iterate 2
    (refine Pw.calm rfl (fun K hK => ?_)
     go_simp
     refine hK _ ?_
     clear hK K)
  refine Pw.nil ?_
  intro u3 hb3
  have B0 : Hid (Below w.heap.size w u3) := Lib.hid (A0.out.trans (hb3.mono A0.out.size))
  have B1 := Lib.hid (A1.out.below hb3)
  have B2 := Lib.hid (A2.out.below hb3)
  clear hb3 A0 A1 A2 hne P0 M1 M2 M3
  go_upto_region 4 with fail
  refine wp_region_held (S := fun w' => Below u3.heap.size u3 w') (by kernel_rfl) ?_
  have hS : Below u3.heap.size u3 { u3 with drawn := u3.drawn + 1 } := (Below.refl _ _).drew
  generalize ({ u3 with drawn := u3.drawn + 1 } : World) = v at hS ⊢
  refine Held.take (i := 0) (some 31) rfl (v := ?_) rfl (by kernel_rfl) (by kernel_rfl) (by kernel_rfl) (fun _ _ _ h => h) (Or.inl ⟨by rfl, ?_⟩) hS ?_
  rotate_left
  · intro w' hw'
    go_simp
    try with_reducible rfl
  (try dsimp only [Act.put]); (try simp only [List.setIfInBounds_toArray, List.set_cons_zero, List.set_cons_succ])
  refine Held.take (i := 1) (some 32) rfl (v := ?_) rfl (by kernel_rfl) (by kernel_rfl) (by kernel_rfl) (fun _ _ _ h => h) (Or.inl ⟨by rfl, ?_⟩) hS ?_
  rotate_left
  · intro w' hw'
    go_simp
    try with_reducible rfl
  (try dsimp only [Act.put]); (try simp only [List.setIfInBounds_toArray, List.set_cons_zero, List.set_cons_succ])
  refine Held.take_load (i := 2) (some 33) rfl 31 _ ⟨w.heap.size, 0, none⟩ c _ rfl rfl (by kernel_rfl) (by kernel_rfl) (by kernel_rfl) (fun _ _ _ h => h) (by rfl) hS rfl (fun w' hw' => B1.out.below hw') Try.underlying31 rfl IA.out ?_
  (try dsimp only [Act.put]); (try simp only [List.setIfInBounds_toArray, List.set_cons_zero, List.set_cons_succ])
  refine Held.take_load (i := 4) (some 35) rfl 31 _ ⟨w.heap.size, 0, none⟩ c _ rfl rfl (by kernel_rfl) (by kernel_rfl) (by kernel_rfl) (fun _ _ _ h => h) (by rfl) hS rfl (fun w' hw' => B1.out.below hw') Try.underlying31 rfl IA.out ?_
  (try dsimp only [Act.put]); (try simp only [List.setIfInBounds_toArray, List.set_cons_zero, List.set_cons_succ])
  refine wpAnyH_ready (rs := [3]) (by kernel_rfl) (by simp) (AllReadyH.cons rfl (fun K hK => ?_) AllReadyH.nil)
  go_simp
  refine (M4.out _ (B0.out.trans (hS.mono B0.out.size))).mono ?_
  rintro e v2 ⟨rfl, hb⟩
  go_simp
  refine hK.out _ _ (Below.trans hS (hb.mono hS.size)) (fun hS => ?_)
  clear hK K
  refine wpAnyH_ready (rs := [5]) (by kernel_rfl) (by simp) (AllReadyH.cons rfl (fun K hK => ?_) AllReadyH.nil)
  go_simp
  refine (M5.out _ (B0.out.trans (hS.mono B0.out.size))).mono ?_
  rintro e v3 ⟨rfl, hb⟩
  go_simp
  refine hK.out _ _ (Below.trans hS (hb.mono hS.size)) (fun hS => ?_)
  clear hK K
  refine Held.take (i := 6) (some 37) rfl (v := ?_) rfl (by kernel_rfl) (by kernel_rfl) (by kernel_rfl) (fun _ _ _ h => h) (Or.inl ⟨by rfl, ?_⟩) hS ?_
  rotate_left
  · intro w' hw'
    go_simp
    try with_reducible rfl
  (try dsimp only [Act.put]); (try simp only [List.setIfInBounds_toArray, List.set_cons_zero, List.set_cons_succ])
  (try simp only [beq_self_eq_true])
  refine Held.take (i := 7) (some 38) rfl (v := ?_) rfl (by kernel_rfl) (by kernel_rfl) (by kernel_rfl) (fun _ _ _ h => h) (Or.inl ⟨by rfl, ?_⟩) hS ?_
  rotate_left
  · intro w' hw'
    go_simp
    try with_reducible rfl
  (try dsimp only [Act.put]); (try simp only [List.setIfInBounds_toArray, List.set_cons_zero, List.set_cons_succ])
  refine Held.take (i := 8) (some 39) rfl (v := ?_) rfl (by kernel_rfl) (by kernel_rfl) (by kernel_rfl) (fun _ _ _ h => h) (Or.inl ⟨by rfl, ?_⟩) hS ?_
  rotate_left
  · intro w' hw'
    go_simp
    try with_reducible rfl
  (try dsimp only [Act.put]); (try simp only [List.setIfInBounds_toArray, List.set_cons_zero, List.set_cons_succ])
  refine Held.take_load (i := 9) (some 40) rfl 31 _ ⟨w.heap.size, 0, none⟩ c _ rfl rfl (by kernel_rfl) (by kernel_rfl) (by kernel_rfl) (fun _ _ _ h => h) (by rfl) hS rfl (fun w' hw' => B1.out.below hw') Try.underlying31 rfl IA.out ?_
  (try dsimp only [Act.put]); (try simp only [List.setIfInBounds_toArray, List.set_cons_zero, List.set_cons_succ])
  refine Held.take_load (i := 11) (some 42) rfl 31 _ ⟨w.heap.size, 0, none⟩ c _ rfl rfl (by kernel_rfl) (by kernel_rfl) (by kernel_rfl) (fun _ _ _ h => h) (by rfl) hS rfl (fun w' hw' => B1.out.below hw') Try.underlying31 rfl IA.out ?_
  (try dsimp only [Act.put]); (try simp only [List.setIfInBounds_toArray, List.set_cons_zero, List.set_cons_succ])
  refine wpAnyH_ready (rs := [10]) (by kernel_rfl) (by simp) (AllReadyH.cons rfl (fun K hK => ?_) AllReadyH.nil)
  go_simp
  refine (M6.out SM.out _ (B0.out.trans (hS.mono B0.out.size))).mono ?_
  rintro e v4 ⟨cc, rfl, hb, hq⟩
  have HQ := hq
  clear hq
  go_simp
  refine hK.out _ _ (Below.trans hS (hb.mono hS.size)) (fun hS => ?_)
  clear hK K
  refine wpAnyH_ready (rs := [12]) (by kernel_rfl) (by simp) (AllReadyH.cons rfl (fun K hK => ?_) AllReadyH.nil)
  go_simp
  refine (HQ.out _ (Below.refl _ _)).mono ?_
  rintro e v5 ⟨rfl, hb⟩
  go_simp
  refine hK.out _ _ (Below.trans hS (hb.mono hS.size)) (fun hS => ?_)
  clear hK K
  refine Held.take (i := 13) (some 44) rfl (v := ?_) rfl (by kernel_rfl) (by kernel_rfl) (by kernel_rfl) (fun _ _ _ h => h) (Or.inl ⟨by rfl, ?_⟩) hS ?_
  rotate_left
  · intro w' hw'
    go_simp
    try with_reducible rfl
  (try dsimp only [Act.put]); (try simp only [List.setIfInBounds_toArray, List.set_cons_zero, List.set_cons_succ])
  refine Held.take (i := 14) (some 45) rfl (v := ?_) rfl (by kernel_rfl) (by kernel_rfl) (by kernel_rfl) (fun _ _ _ h => h) (Or.inl ⟨by rfl, ?_⟩) hS ?_
  rotate_left
  · intro w' hw'
    go_simp
    try with_reducible rfl
  (try dsimp only [Act.put]); (try simp only [List.setIfInBounds_toArray, List.set_cons_zero, List.set_cons_succ])
  refine wpAnyH_ready (rs := [15]) (by kernel_rfl) (by simp) (AllReadyH.cons rfl (fun K hK => ?_) AllReadyH.nil)
  go_simp
  refine (Wa.awake_any _).mono ?_
  rintro e v6 ⟨rfl, hb⟩
  go_simp
  refine hK.out _ _ (Below.trans hS (hb.mono hS.size)) (fun hS => ?_)
  clear hK K
  refine Held.take (i := 16) (some 47) rfl (v := ?_) rfl (by kernel_rfl) (by kernel_rfl) (by kernel_rfl) (fun _ _ _ h => h) (Or.inl ⟨by rfl, ?_⟩) hS ?_
  rotate_left
  · intro w' hw'
    go_simp
    try with_reducible rfl
  (try dsimp only [Act.put]); (try simp only [List.setIfInBounds_toArray, List.set_cons_zero, List.set_cons_succ])
  refine Held.take (i := 17) (some 4) rfl (v := ?_) rfl (by kernel_rfl) (by kernel_rfl) (by kernel_rfl) (fun _ _ _ h => h) (Or.inl ⟨by rfl, ?_⟩) hS ?_
  rotate_left
  · intro w' hw'
    go_simp
    try with_reducible rfl
  (try dsimp only [Act.put]); (try simp only [List.setIfInBounds_toArray, List.set_cons_zero, List.set_cons_succ])
  refine wpAnyH_done (by kernel_rfl) ?_ _
  have E := Lib.hid (B0.out.trans (hS.mono B0.out.size))
  clear hS
  go_wp2
  go_ret
  exact ⟨rfl, E.out⟩

/-! ### the row's step -/
set_option maxRecDepth 100000 in
theorem lifted (os : Os) (started : os.Started) (H : Type) (enc : TypeId × Value → H) :
    ReturnsInHanded {} Try.checked os 3 .any (Rows.tableAllSpec.pre6 enc Try.prog Try.f3 Rows.tableAllRow.domain false) (Rows.tableAllSpec.post enc Try.prog Try.f3 false true false false) := by
  refine returnsInHanded_of_change (C := Try.checked) own started (by kernel_rfl) Try.func3
    (ChangeSpec.witness6 (enc := enc) (C := Try.checked) false ⟨#[], #[.agg (Clone.zTab.cells Clone.zHd).toArray, .agg (Clone.zTab.cells Clone.zHd).toArray], []⟩ 8 (by kernel_rfl) (by kernel_rfl) (by kernel_rfl) (by kernel_rfl)) ?_
  intro W base args ds gs before hval0 hW hcnd _
  have hval : ∀ (j : Nat) t v, Try.f3.params[j]? = some t → args[j]? = some v → Value.okWide Try.prog W .any base t v := hval0
  have hW' := hW
  obtain ⟨p, q, hA0, hV, rfl, hfz, hnd⟩ := hW
  have hA : DataW.TrodAll enc Try.prog W 0 (fun _ => true) true Try.f3.params.toList args.toList ds p := hA0
  rw [Try.params3] at hA hval
  obtain ⟨v0, vs0, d0, ds0, p0, q0, hargs, rfl, rfl, h0, r0⟩ := trodAll_cons hA
  obtain ⟨v1, vs1, d1, ds1, p1, q1, rfl, rfl, rfl, h1, r1⟩ := trodAll_cons r0
  obtain ⟨rfl, rfl, rfl⟩ := trodAll_nil r1
  obtain rfl : args = #[v0, v1] := by cases args; simp_all
  obtain ⟨rfl, rfl⟩ := trodVars_none hV
  obtain ⟨c0, rfl, _⟩ := okWide_struct Try.underlying31 (hval 0 31 v0 rfl rfl)
  have k0 := h0
  have lt0 : ∀ x ∈ p0, x.block < W.heap.size := by obtain ⟨m, hm⟩ := k0; exact DataW.trod_lt m _ _ _ hm
  obtain ⟨H0, T0, e0, w0⟩ : ∃ (h : Tab.Hd) (T : Tab.Tab), c0 = (T.cells h).toArray ∧ Tab.IsTab W h T := by
    obtain ⟨fuel, hf⟩ := h0
    obtain ⟨h, T, e, k⟩ := TabArg.open_tab hf
    exact ⟨h, T, by rw [← e]; simp [Value.cells], k⟩
  subst e0
  obtain ⟨c1, rfl, _⟩ := okWide_struct Try.underlying31 (hval 1 31 v1 rfl rfl)
  have k1 := h1
  have lt1 : ∀ x ∈ p1, x.block < W.heap.size := by obtain ⟨m, hm⟩ := k1; exact DataW.trod_lt m _ _ _ hm
  obtain ⟨H1, T1, e1, w1⟩ : ∃ (h : Tab.Hd) (T : Tab.Tab), c1 = (T.cells h).toArray ∧ Tab.IsTab W h T := by
    obtain ⟨fuel, hf⟩ := h1
    obtain ⟨h, T, e, k⟩ := TabArg.open_tab hf
    exact ⟨h, T, by rw [← e]; simp [Value.cells], k⟩
  subst e1
  clear hA0 hval0
  refine (walk T0 H0 T1 H1 W w0 w1).mono fun e W' ⟨he, bel⟩ => ?_
  subst he
  exact ⟨_, rfl, _, _, _, [], _, [], hW', trodAll_mk1 (shut_bool Try.underlying4 _), (trodAll_cons_mk (Below.trod laidOut (by kernel_rfl) (of_decide_eq_true (by kernel_rfl)) k0 bel lt0) (trodAll_cons_mk (Below.trod laidOut (by kernel_rfl) (of_decide_eq_true (by kernel_rfl)) k1 bel lt1) trodAll_mk0)), rfl, bel.frame _, fun h => by cases h⟩

theorem over : Rows.tableAllRow.holds Try.pinned (OpenSpec.ofChange Rows.tableAllSpec) :=
  OpenClaim.holds_of_wide 3 Try.f3 rfl rfl rfl rfl rfl rfl rfl ⟨rfl, rfl, rfl, rfl, rfl⟩ rfl rfl rfl rfl rfl (by kernel_rfl) Try.func3 (by kernel_rfl)
    (of_decide_eq_true (by kernel_rfl)) (by unfold Func.isWrapper; first | (rw [if_pos (by decide +kernel)]; kernel_rfl) | (rw [if_neg (by decide +kernel)]; exact ⟨rfl, rfl⟩))
    (fun os started H enc _ => lifted os started H enc)

/-- the statement -/
theorem proved : Rows.TableAllSaid :=
  over
#print axioms proved
end Go.Proofs.Ytpofccenoobojaa.tableAll
