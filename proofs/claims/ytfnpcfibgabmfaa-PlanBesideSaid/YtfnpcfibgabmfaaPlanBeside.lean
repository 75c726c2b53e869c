/- PlanBeside returns true at any numbers: by any numbers the table's Beside agrees with Where, is symmetric, and of no phase with itself; just the phases that are On stand somewhere. No condition. -/
import Derived.Test.YtfnpcfibgabmfaaRows
import Derived.Test.YtfnpcfibgabmfaaPart09
import Derived.Test.YtfnpcfibgabmfaaPart10
import Derived.Test.YtfnpcfibgabmfaaPart05
import Derived.Deep.Cut
import Derived.LoopTactic
import Derived.WalkKit
import Derived.WalkLawsBesides
import Derived.ProofKit
import Derived.OpenShut
import Derived.ShutString
import Derived.ChangeOld
import Derived.Below
set_option linter.unusedVariables false
set_option linter.unusedSimpArgs false
set_option linter.unusedSectionVars false
namespace Go.Proofs.Ytfnpcfibgabmfaa.planBeside
open Go.ChangeShapes Go.WideShapes Go.ChangeAt Go.RowKit
open Tab PlaceM PlanM GenT GenG
open May (infoT)
set_option linter.unusedVariables false
set_option linter.unusedSimpArgs false

theorem own : ownKnob Try.prog.godebug = none := by kernel_rfl
theorem laidOut : laidOutB Try.prog = true := by kernel_rfl

/-- WHAT THE WALK IS TOLD OF A SLICE OF INTEGERS THAT CAME IN: it is nil; or it leads to a row of 'cap' cells, the numbers 'zs' (the first 'len' are its elements, the rest its spare room), each fitting its kind. -/
def IsRow (k : IntKind) (w : World) (a : Option Addr) (len cap : Nat) (zs : List Int) : Prop :=
  (a = none ∧ len = 0 ∧ cap = 0 ∧ zs = []) ∨
  ∃ x, a = some x ∧ len ≤ cap ∧ cap ≤ maxLen ∧ zs.length = cap ∧ (∀ i, i < zs.length → w.cell? (x.add i) = some (.int k (zs.getD i 0))) ∧ ∀ n ∈ zs, (Lit.int k n).wf = true

theorem isRow_int {w : World} {a : Option Addr} {len cap : Nat} {zs : List Int} (h : IsRow .i64 w a len cap zs) : (zs.take len).length = len ∧ Tab.IntRow w ⟨a, cap⟩ (zs.take len) := by
  rcases h with ⟨rfl, rfl, rfl, rfl⟩ | ⟨x, rfl, h1, h2, h3, h4, _⟩
  · exact ⟨rfl, .inl ⟨rfl, rfl, rfl⟩⟩
  · have hl : (zs.take len).length = len := by rw [List.length_take]; omega
    refine ⟨hl, .inr ⟨x, rfl, by rw [hl]; exact h1, h2, fun i v hv j u hu => ?_⟩⟩
    have hi : i < len := by have := (List.getElem?_eq_some_iff.1 hv).1; omega
    match j, hu with
    | 0, hu =>
      simp at hu
      subst hu
      rw [List.getElem?_take, if_pos hi] at hv
      have := h4 i (by omega)
      rw [List.getD_eq_getElem?_getD, hv] at this
      rw [Nat.mul_one, Tab.add_two, Nat.add_zero]
      exact this
    | j + 1, hu => simp at hu

/-! ### the walk -/
set_option maxRecDepth 10000 in
set_option maxHeartbeats 8000000 in
theorem walk (a0 : Option Addr) (len0 cap0 : Nat) (z0 : List Int) (a1 : Int) (a2 : Int) (w : World) (w0 : IsRow .i64 w a0 len0 cap0 z0) (w1 : (Lit.int .i64 a1).wf = true) (w2 : (Lit.int .i64 a2).wf = true) :
    Calls Try.prog 9 #[.slice a0 len0 cap0, .int .i64 a1, .int .i64 a2] w fun e w' => e = .returned (.bool true) ∧ Below w.heap.size w w' := by
  obtain ⟨hlen, hrow⟩ := isRow_int w0
  obtain ⟨L, hL⟩ : ∃ L, L = z0.take len0 := ⟨_, rfl⟩
  rw [← hL] at hlen hrow
  clear hL w0
  subst hlen
  have hz := (zero_of_info GenT.infoTz).1
  have hZs : (Clone.zTab.cells Clone.zHd).length = 131 := rfl
  generalize hZ : GenT.zTab.cells GenT.zHd = Z at *
  have ZS : Z.toArray.size = 131 := by rw [← hZ]; rfl
  clear hZ hZs
  have G8 := Lib.hid (GenT.genTab_few L)
  go_enter Try.func9, Try.ntmps9
  go_wp2_with fail
  refine (GenT.table_any a0 cap0 L w hrow).mono ?_
  rintro e u0 ⟨hd, rfl, ht, hb⟩
  have CS := GenT.cells_cut hd ht.ph ht.cf ht.fl
  have ON := (cells_ok ht).one
  have HT : Hid (∀ W, Below u0.heap.size u0 W → IsTab W hd (genTab L)) := Lib.hid (fun W hb => ht.below hb)
  have B0 := Lib.hid hb
  have IA : Hid ((Try.prog.info? 33).map (·.size) = some ((genTab L).cells hd).length) := Lib.hid (by rw [CS]; exact infoT)
  clear hb ht
  generalize hc : (genTab L).cells hd = c at *
  have HC := Lib.hid hc
  clear hc
  go_upto_region 2 with (refine Row.wpList_store_new rfl 33 _ _ rfl u0 Z.toArray c.toArray rfl rfl rfl (by rw [List.size_toArray]; exact IA.out) (by rw [ZS, List.size_toArray, CS]) ON ?_)
  have hb2 : Below u0.heap.size u0 (u0.alloc (.cells c.toArray 33)) := (Below.refl _ _).alloc (Nat.le_refl _) _
  have hl : Lies (u0.alloc (.cells c.toArray 33)) ⟨u0.heap.size, 0, none⟩ c := Row.lies_new _ _ _
  have hs : u0.heap.size < (u0.alloc (.cells c.toArray 33)).heap.size := by simp
  have TB0 : Hid (∀ W, Below (u0.alloc (.cells c.toArray 33)).heap.size (u0.alloc (.cells c.toArray 33)) W → IsTab W hd (genTab L)) := Lib.hid (fun W hb => HT.out W (hb2.trans (hb.mono hb2.size)))
  generalize u0.alloc (.cells c.toArray 33) = u at hb2 hl hs TB0 ⊢
  have TB : Hid (∀ W, Below u.heap.size u W → IsTab W hd (genTab L)) := TB0
  have A0 : Hid (Below w.heap.size w u) := Lib.hid (B0.out.trans (hb2.mono B0.out.size))
  have A1 : Hid (∀ W, Below u.heap.size u W → Lies W ⟨u0.heap.size, 0, none⟩ c) := Lib.hid (fun W hb => Lies.below hl hb)
  clear hb2 hl hs TB0 HT B0 hrow hz ZS ON CS
  generalize u0.heap.size = tb at *
  obtain ⟨p, HP⟩ : ∃ p, Hid (p = a1 % 10 - 1) := ⟨_, Lib.hid rfl⟩
  obtain ⟨q, HQ⟩ : ∃ q, Hid (q = a2 % 10 - 1) := ⟨_, Lib.hid rfl⟩
  have r1 : 0 ≤ a1 % 10 ∧ a1 % 10 < 10 := ⟨Int.emod_nonneg _ (by omega), Int.emod_lt_of_pos _ (by omega)⟩
  have r2 : 0 ≤ a2 % 10 ∧ a2 % 10 < 10 := ⟨Int.emod_nonneg _ (by omega), Int.emod_lt_of_pos _ (by omega)⟩
  obtain ⟨g1, k1, i1, ok1, R1, WC1⟩ : ∃ (g k i : Int) (ok : Bool), Hid (g = PlanW.wG (where_ (genTab L) p) ∧ k = PlanW.wK (where_ (genTab L) p) ∧ ok = (where_ (genTab L) p).isSome) ∧ Hid (∀ W, Below u.heap.size u W → Calls Try.prog 21 #[.agg c.toArray, .int .i64 p] W fun e w' => e = .returned (.tuple #[I g, I k, I i, .bool ok]) ∧ Below W.heap.size W w') :=
    ⟨_, _, _, _, Lib.hid ⟨rfl, rfl, rfl⟩, Lib.hid (fun W hb => by rw [← HC.out]; exact PlanW.pwhere_any (genTab L) hd p W (TB.out W hb))⟩
  obtain ⟨g2, k2, i2, ok2, R2, WC2⟩ : ∃ (g k i : Int) (ok : Bool), Hid (g = PlanW.wG (where_ (genTab L) q) ∧ k = PlanW.wK (where_ (genTab L) q) ∧ ok = (where_ (genTab L) q).isSome) ∧ Hid (∀ W, Below u.heap.size u W → Calls Try.prog 21 #[.agg c.toArray, .int .i64 q] W fun e w' => e = .returned (.tuple #[I g, I k, I i, .bool ok]) ∧ Below W.heap.size W w') :=
    ⟨_, _, _, _, Lib.hid ⟨rfl, rfl, rfl⟩, Lib.hid (fun W hb => by rw [← HC.out]; exact PlanW.pwhere_any (genTab L) hd q W (TB.out W hb))⟩
  have BC : Hid (∀ r s W, Below u.heap.size u W → Calls Try.prog 23 #[.agg c.toArray, .int .i64 r, .int .i64 s] W fun e w' => e = .returned (.bool (beside (genTab L) r s)) ∧ Below W.heap.size W w') := Lib.hid (fun r s W hb => by rw [← HC.out]; exact PlanW.pbeside_any (genTab L) hd r s W (TB.out W hb))
  obtain ⟨o, O1, O2⟩ : ∃ m : Int, Hid (∀ W, Below u.heap.size u W → Calls Try.prog 27 #[.agg c.toArray] W fun e w' => e = .returned (.int .i64 m) ∧ Below W.heap.size W w') ∧ Hid (SetM.has m p = ok1) :=
    ⟨(OnS.onS (genTab L) : Nat), Lib.hid (fun W hb => by rw [← HC.out]; exact PlanO.pon_any (genTab L) hd W (TB.out W hb)), Lib.hid ((gen_has_on L p).trans R1.out.2.2.symm)⟩
  have BE : Hid (beside (genTab L) p q = (ok1 && ok2 && decide (g1 = g2) && decide (k1 ≠ k2))) := Lib.hid (by
    obtain ⟨a1, b1, c1⟩ := R1.out
    obtain ⟨a2, b2, c2⟩ := R2.out
    subst a1 b1 c1 a2 b2 c2
    unfold beside
    cases where_ (genTab L) p with
    | none => rfl
    | some x =>
      cases where_ (genTab L) q with
      | none => rfl
      | some y =>
        simp only [PlanW.wG, PlanW.wK, Option.isSome_some, Bool.true_and, Int.natCast_inj, ne_eq]
        by_cases h1 : x.g = y.g <;> by_cases h2 : x.k = y.k <;> simp [h1, h2])
  have BS : Hid (beside (genTab L) q p = beside (genTab L) p q) := Lib.hid (beside_symm _ _ _)
  have BF : Hid (beside (genTab L) p p = false) := Lib.hid (beside_self _ _)
  clear HC TB G8
  go_wp2_with fail
  refine (RefS.place_any a1 10 u (by omega) (by omega)).mono ?_
  rintro e w' ⟨rfl, rfl⟩
  go_upto_region 3 with fail
  rw [← HP.out]
  go_wp2_with fail
  refine (RefS.place_any a2 10 u (by omega) (by omega)).mono ?_
  rintro e w' ⟨rfl, rfl⟩
  go_upto_region 4 with fail
  rw [← HQ.out]
  clear HP HQ r1 r2
  go_wp2_with (refine Row.wpList_load_g 33 _ rfl (by first | rfl | go_simp) ⟨tb, 0, none⟩ rfl c _ (A1.out _ (Below.refl _ _)) Try.underlying33 rfl IA.out ?_)
  refine (WC1.out _ (Below.refl _ _)).mono ?_
  rintro e u1 ⟨rfl, hb⟩
  have B1 := Lib.hid hb
  clear hb
  go_wp2_with (refine Row.wpList_load_g 33 _ rfl (by first | rfl | go_simp) ⟨tb, 0, none⟩ rfl c _ (A1.out _ B1.out) Try.underlying33 rfl IA.out ?_)
  refine (WC2.out _ B1.out).mono ?_
  rintro e u2 ⟨rfl, hb⟩
  have B2 := Lib.hid (B1.out.trans (hb.mono B1.out.size))
  clear hb B1 WC1 WC2 R1 R2
  go_upto_region 6 with fail
  cases ok1 with
  | false =>
    have C1 : Hid (∀ W, Below u.heap.size u W → Calls Try.prog 23 #[.agg c.toArray, .int .i64 p, .int .i64 q] W fun e w' => e = .returned (.bool false) ∧ Below W.heap.size W w') := Lib.hid (fun W hb => by have h1 : beside (genTab L) p q = false := (by rw [BE.out]; simp); have h2 := BC.out p q W hb; rw [h1] at h2; exact h2)
    have C2 : Hid (∀ W, Below u.heap.size u W → Calls Try.prog 23 #[.agg c.toArray, .int .i64 q, .int .i64 p] W fun e w' => e = .returned (.bool false) ∧ Below W.heap.size W w') := Lib.hid (fun W hb => by have h1 : beside (genTab L) q p = false := (by rw [BS.out, BE.out]; simp); have h2 := BC.out q p W hb; rw [h1] at h2; exact h2)
    have C3 : Hid (∀ W, Below u.heap.size u W → Calls Try.prog 23 #[.agg c.toArray, .int .i64 p, .int .i64 p] W fun e w' => e = .returned (.bool false) ∧ Below W.heap.size W w') := Lib.hid (fun W hb => by have h1 : beside (genTab L) p p = false := (by exact BF.out); have h2 := BC.out p p W hb; rw [h1] at h2; exact h2)
    have HA : Hid (∀ W : World, Calls Try.prog 34 #[.int .i64 o, .int .i64 p] W fun e w' => e = .returned (.bool false) ∧ Below W.heap.size W w') := Lib.hid (fun W => (RefS.rhas_any o p W).mono fun _ _ ⟨e, q⟩ => ⟨by rw [e, O2.out], q ▸ Below.refl _ _⟩)
    clear BE BS BF BC O2
    have hne : Nonempty (Ph.S (Row.Old u2)) := ⟨⟨0, u2, Below.refl _ _⟩⟩
    have P0 : Hid (∀ p : Ph.S (Row.Old u2), Below u.heap.size u p.world) := Lib.hid (fun p => B2.out.trans (p.is.mono B2.out.size))
    refine Pw.region (Row.Old u2) [] (by kernel_rfl) (by kernel_rfl) (Row.Old.drew _) ?_
    refine Pw.load rfl (by rfl) 33 _ rfl ⟨tb, 0, none⟩ rfl c _ (fun p => A1.out _ (P0.out p)) Try.underlying33 rfl IA.out ?_
    (try dsimp only [Act.put]); (try simp only [List.setIfInBounds_toArray, List.set_cons_zero, List.set_cons_succ])
    iterate 2
      (refine Pw.calm rfl (fun K hK => ?_)
       go_simp
       refine hK _ ?_
       clear hK K)
    (refine Pw.calm rfl (fun K hK => ?_)
     go_simp
     refine ⟨_, fun p => Row.Old.call (C1.out _ (P0.out p)), hK _ ?_⟩
     clear hK K)
    iterate 15
      (refine Pw.calm rfl (fun K hK => ?_)
       go_simp
       refine hK _ ?_
       clear hK K)
    (try simp only [beq_self_eq_true])
    iterate 1
      (refine Pw.calm rfl (fun K hK => ?_)
       go_simp
       refine hK _ ?_
       clear hK K)
    refine Pw.load rfl (by rfl) 33 _ rfl ⟨tb, 0, none⟩ rfl c _ (fun p => A1.out _ (P0.out p)) Try.underlying33 rfl IA.out ?_
    (try dsimp only [Act.put]); (try simp only [List.setIfInBounds_toArray, List.set_cons_zero, List.set_cons_succ])
    iterate 2
      (refine Pw.calm rfl (fun K hK => ?_)
       go_simp
       refine hK _ ?_
       clear hK K)
    (refine Pw.calm rfl (fun K hK => ?_)
     go_simp
     refine ⟨_, fun p => Row.Old.call (C2.out _ (P0.out p)), hK _ ?_⟩
     clear hK K)
    refine Pw.load rfl (by rfl) 33 _ rfl ⟨tb, 0, none⟩ rfl c _ (fun p => A1.out _ (P0.out p)) Try.underlying33 rfl IA.out ?_
    (try dsimp only [Act.put]); (try simp only [List.setIfInBounds_toArray, List.set_cons_zero, List.set_cons_succ])
    iterate 2
      (refine Pw.calm rfl (fun K hK => ?_)
       go_simp
       refine hK _ ?_
       clear hK K)
    (refine Pw.calm rfl (fun K hK => ?_)
     go_simp
     refine ⟨_, fun p => Row.Old.call (C1.out _ (P0.out p)), hK _ ?_⟩
     clear hK K)
    iterate 1
      (refine Pw.calm rfl (fun K hK => ?_)
       go_simp
       refine hK _ ?_
       clear hK K)
    (try simp only [beq_self_eq_true])
    iterate 2
      (refine Pw.calm rfl (fun K hK => ?_)
       go_simp
       refine hK _ ?_
       clear hK K)
    refine Pw.load rfl (by rfl) 33 _ rfl ⟨tb, 0, none⟩ rfl c _ (fun p => A1.out _ (P0.out p)) Try.underlying33 rfl IA.out ?_
    (try dsimp only [Act.put]); (try simp only [List.setIfInBounds_toArray, List.set_cons_zero, List.set_cons_succ])
    iterate 2
      (refine Pw.calm rfl (fun K hK => ?_)
       go_simp
       refine hK _ ?_
       clear hK K)
    (refine Pw.calm rfl (fun K hK => ?_)
     go_simp
     refine ⟨_, fun p => Row.Old.call (C3.out _ (P0.out p)), hK _ ?_⟩
     clear hK K)
    iterate 4
      (refine Pw.calm rfl (fun K hK => ?_)
       go_simp
       refine hK _ ?_
       clear hK K)
    refine Pw.load rfl (by rfl) 33 _ rfl ⟨tb, 0, none⟩ rfl c _ (fun p => A1.out _ (P0.out p)) Try.underlying33 rfl IA.out ?_
    (try dsimp only [Act.put]); (try simp only [List.setIfInBounds_toArray, List.set_cons_zero, List.set_cons_succ])
    (refine Pw.calm rfl (fun K hK => ?_)
     go_simp
     refine ⟨_, fun p => Row.Old.call (O1.out _ (P0.out p)), hK _ ?_⟩
     clear hK K)
    iterate 1
      (refine Pw.calm rfl (fun K hK => ?_)
       go_simp
       refine hK _ ?_
       clear hK K)
    (refine Pw.calm rfl (fun K hK => ?_)
     go_simp
     refine ⟨_, fun p => Row.Old.call (HA.out _), hK _ ?_⟩
     clear hK K)
    iterate 1
      (refine Pw.calm rfl (fun K hK => ?_)
       go_simp
       refine hK _ ?_
       clear hK K)
    (try simp only [beq_self_eq_true])
    iterate 2
      (refine Pw.calm rfl (fun K hK => ?_)
       go_simp
       refine hK _ ?_
       clear hK K)
    (refine Pw.calm rfl (fun K hK => ?_)
     go_simp
     refine ⟨_, fun p => Row.Old.call (Wa8.awake_any _), hK _ ?_⟩
     clear hK K)
    iterate 2
      (refine Pw.calm rfl (fun K hK => ?_)
       go_simp
       refine hK _ ?_
       clear hK K)
    refine Pw.nil ?_
    intro u9 hb9
    have E := Lib.hid (A0.out.trans ((B2.out.trans (hb9.mono B2.out.size)).mono A0.out.size))
    clear hb9 hne P0
    go_wp2
    go_ret
    exact ⟨rfl, E.out⟩
  | true =>
    cases ok2 with
    | false =>
      have C1 : Hid (∀ W, Below u.heap.size u W → Calls Try.prog 23 #[.agg c.toArray, .int .i64 p, .int .i64 q] W fun e w' => e = .returned (.bool false) ∧ Below W.heap.size W w') := Lib.hid (fun W hb => by have h1 : beside (genTab L) p q = false := (by rw [BE.out]; simp); have h2 := BC.out p q W hb; rw [h1] at h2; exact h2)
      have C2 : Hid (∀ W, Below u.heap.size u W → Calls Try.prog 23 #[.agg c.toArray, .int .i64 q, .int .i64 p] W fun e w' => e = .returned (.bool false) ∧ Below W.heap.size W w') := Lib.hid (fun W hb => by have h1 : beside (genTab L) q p = false := (by rw [BS.out, BE.out]; simp); have h2 := BC.out q p W hb; rw [h1] at h2; exact h2)
      have C3 : Hid (∀ W, Below u.heap.size u W → Calls Try.prog 23 #[.agg c.toArray, .int .i64 p, .int .i64 p] W fun e w' => e = .returned (.bool false) ∧ Below W.heap.size W w') := Lib.hid (fun W hb => by have h1 : beside (genTab L) p p = false := (by exact BF.out); have h2 := BC.out p p W hb; rw [h1] at h2; exact h2)
      have HA : Hid (∀ W : World, Calls Try.prog 34 #[.int .i64 o, .int .i64 p] W fun e w' => e = .returned (.bool true) ∧ Below W.heap.size W w') := Lib.hid (fun W => (RefS.rhas_any o p W).mono fun _ _ ⟨e, q⟩ => ⟨by rw [e, O2.out], q ▸ Below.refl _ _⟩)
      clear BE BS BF BC O2
      have hne : Nonempty (Ph.S (Row.Old u2)) := ⟨⟨0, u2, Below.refl _ _⟩⟩
      have P0 : Hid (∀ p : Ph.S (Row.Old u2), Below u.heap.size u p.world) := Lib.hid (fun p => B2.out.trans (p.is.mono B2.out.size))
      refine Pw.region (Row.Old u2) [] (by kernel_rfl) (by kernel_rfl) (Row.Old.drew _) ?_
      refine Pw.load rfl (by rfl) 33 _ rfl ⟨tb, 0, none⟩ rfl c _ (fun p => A1.out _ (P0.out p)) Try.underlying33 rfl IA.out ?_
      (try dsimp only [Act.put]); (try simp only [List.setIfInBounds_toArray, List.set_cons_zero, List.set_cons_succ])
      iterate 2
        (refine Pw.calm rfl (fun K hK => ?_)
         go_simp
         refine hK _ ?_
         clear hK K)
      (refine Pw.calm rfl (fun K hK => ?_)
       go_simp
       refine ⟨_, fun p => Row.Old.call (C1.out _ (P0.out p)), hK _ ?_⟩
       clear hK K)
      iterate 15
        (refine Pw.calm rfl (fun K hK => ?_)
         go_simp
         refine hK _ ?_
         clear hK K)
      (try simp only [beq_self_eq_true])
      iterate 1
        (refine Pw.calm rfl (fun K hK => ?_)
         go_simp
         refine hK _ ?_
         clear hK K)
      refine Pw.load rfl (by rfl) 33 _ rfl ⟨tb, 0, none⟩ rfl c _ (fun p => A1.out _ (P0.out p)) Try.underlying33 rfl IA.out ?_
      (try dsimp only [Act.put]); (try simp only [List.setIfInBounds_toArray, List.set_cons_zero, List.set_cons_succ])
      iterate 2
        (refine Pw.calm rfl (fun K hK => ?_)
         go_simp
         refine hK _ ?_
         clear hK K)
      (refine Pw.calm rfl (fun K hK => ?_)
       go_simp
       refine ⟨_, fun p => Row.Old.call (C2.out _ (P0.out p)), hK _ ?_⟩
       clear hK K)
      refine Pw.load rfl (by rfl) 33 _ rfl ⟨tb, 0, none⟩ rfl c _ (fun p => A1.out _ (P0.out p)) Try.underlying33 rfl IA.out ?_
      (try dsimp only [Act.put]); (try simp only [List.setIfInBounds_toArray, List.set_cons_zero, List.set_cons_succ])
      iterate 2
        (refine Pw.calm rfl (fun K hK => ?_)
         go_simp
         refine hK _ ?_
         clear hK K)
      (refine Pw.calm rfl (fun K hK => ?_)
       go_simp
       refine ⟨_, fun p => Row.Old.call (C1.out _ (P0.out p)), hK _ ?_⟩
       clear hK K)
      iterate 1
        (refine Pw.calm rfl (fun K hK => ?_)
         go_simp
         refine hK _ ?_
         clear hK K)
      (try simp only [beq_self_eq_true])
      iterate 2
        (refine Pw.calm rfl (fun K hK => ?_)
         go_simp
         refine hK _ ?_
         clear hK K)
      refine Pw.load rfl (by rfl) 33 _ rfl ⟨tb, 0, none⟩ rfl c _ (fun p => A1.out _ (P0.out p)) Try.underlying33 rfl IA.out ?_
      (try dsimp only [Act.put]); (try simp only [List.setIfInBounds_toArray, List.set_cons_zero, List.set_cons_succ])
      iterate 2
        (refine Pw.calm rfl (fun K hK => ?_)
         go_simp
         refine hK _ ?_
         clear hK K)
      (refine Pw.calm rfl (fun K hK => ?_)
       go_simp
       refine ⟨_, fun p => Row.Old.call (C3.out _ (P0.out p)), hK _ ?_⟩
       clear hK K)
      iterate 4
        (refine Pw.calm rfl (fun K hK => ?_)
         go_simp
         refine hK _ ?_
         clear hK K)
      refine Pw.load rfl (by rfl) 33 _ rfl ⟨tb, 0, none⟩ rfl c _ (fun p => A1.out _ (P0.out p)) Try.underlying33 rfl IA.out ?_
      (try dsimp only [Act.put]); (try simp only [List.setIfInBounds_toArray, List.set_cons_zero, List.set_cons_succ])
      (refine Pw.calm rfl (fun K hK => ?_)
       go_simp
       refine ⟨_, fun p => Row.Old.call (O1.out _ (P0.out p)), hK _ ?_⟩
       clear hK K)
      iterate 1
        (refine Pw.calm rfl (fun K hK => ?_)
         go_simp
         refine hK _ ?_
         clear hK K)
      (refine Pw.calm rfl (fun K hK => ?_)
       go_simp
       refine ⟨_, fun p => Row.Old.call (HA.out _), hK _ ?_⟩
       clear hK K)
      iterate 1
        (refine Pw.calm rfl (fun K hK => ?_)
         go_simp
         refine hK _ ?_
         clear hK K)
      (try simp only [beq_self_eq_true])
      iterate 2
        (refine Pw.calm rfl (fun K hK => ?_)
         go_simp
         refine hK _ ?_
         clear hK K)
      (refine Pw.calm rfl (fun K hK => ?_)
       go_simp
       refine ⟨_, fun p => Row.Old.call (Wa8.awake_any _), hK _ ?_⟩
       clear hK K)
      iterate 2
        (refine Pw.calm rfl (fun K hK => ?_)
         go_simp
         refine hK _ ?_
         clear hK K)
      refine Pw.nil ?_
      intro u9 hb9
      have E := Lib.hid (A0.out.trans ((B2.out.trans (hb9.mono B2.out.size)).mono A0.out.size))
      clear hb9 hne P0
      go_wp2
      go_ret
      exact ⟨rfl, E.out⟩
    | true =>
      by_cases hg : g1 = g2
      · by_cases hk : k1 = k2
        · have hkb : (k1 != k2) = false := by simp [hk]
          have hgb : (g1 == g2) = true := by simp [hg]
          have C1 : Hid (∀ W, Below u.heap.size u W → Calls Try.prog 23 #[.agg c.toArray, .int .i64 p, .int .i64 q] W fun e w' => e = .returned (.bool false) ∧ Below W.heap.size W w') := Lib.hid (fun W hb => by have h1 : beside (genTab L) p q = false := (by rw [BE.out]; simp [hg, hk]); have h2 := BC.out p q W hb; rw [h1] at h2; exact h2)
          have C2 : Hid (∀ W, Below u.heap.size u W → Calls Try.prog 23 #[.agg c.toArray, .int .i64 q, .int .i64 p] W fun e w' => e = .returned (.bool false) ∧ Below W.heap.size W w') := Lib.hid (fun W hb => by have h1 : beside (genTab L) q p = false := (by rw [BS.out, BE.out]; simp [hg, hk]); have h2 := BC.out q p W hb; rw [h1] at h2; exact h2)
          have C3 : Hid (∀ W, Below u.heap.size u W → Calls Try.prog 23 #[.agg c.toArray, .int .i64 p, .int .i64 p] W fun e w' => e = .returned (.bool false) ∧ Below W.heap.size W w') := Lib.hid (fun W hb => by have h1 : beside (genTab L) p p = false := (by exact BF.out); have h2 := BC.out p p W hb; rw [h1] at h2; exact h2)
          have HA : Hid (∀ W : World, Calls Try.prog 34 #[.int .i64 o, .int .i64 p] W fun e w' => e = .returned (.bool true) ∧ Below W.heap.size W w') := Lib.hid (fun W => (RefS.rhas_any o p W).mono fun _ _ ⟨e, q⟩ => ⟨by rw [e, O2.out], q ▸ Below.refl _ _⟩)
          clear BE BS BF BC O2
          have hne : Nonempty (Ph.S (Row.Old u2)) := ⟨⟨0, u2, Below.refl _ _⟩⟩
          have P0 : Hid (∀ p : Ph.S (Row.Old u2), Below u.heap.size u p.world) := Lib.hid (fun p => B2.out.trans (p.is.mono B2.out.size))
          refine Pw.region (Row.Old u2) [] (by kernel_rfl) (by kernel_rfl) (Row.Old.drew _) ?_
          refine Pw.load rfl (by rfl) 33 _ rfl ⟨tb, 0, none⟩ rfl c _ (fun p => A1.out _ (P0.out p)) Try.underlying33 rfl IA.out ?_
          (try dsimp only [Act.put]); (try simp only [List.setIfInBounds_toArray, List.set_cons_zero, List.set_cons_succ])
          iterate 2
            (refine Pw.calm rfl (fun K hK => ?_)
             go_simp
             refine hK _ ?_
             clear hK K)
          (refine Pw.calm rfl (fun K hK => ?_)
           go_simp
           refine ⟨_, fun p => Row.Old.call (C1.out _ (P0.out p)), hK _ ?_⟩
           clear hK K)
          iterate 15
            (refine Pw.calm rfl (fun K hK => ?_)
             go_simp
             refine hK _ ?_
             clear hK K)
          (try simp only [beq_self_eq_true])
          iterate 1
            (refine Pw.calm rfl (fun K hK => ?_)
             go_simp
             refine hK _ ?_
             clear hK K)
          refine Pw.load rfl (by rfl) 33 _ rfl ⟨tb, 0, none⟩ rfl c _ (fun p => A1.out _ (P0.out p)) Try.underlying33 rfl IA.out ?_
          (try dsimp only [Act.put]); (try simp only [List.setIfInBounds_toArray, List.set_cons_zero, List.set_cons_succ])
          iterate 2
            (refine Pw.calm rfl (fun K hK => ?_)
             go_simp
             refine hK _ ?_
             clear hK K)
          (refine Pw.calm rfl (fun K hK => ?_)
           go_simp
           refine ⟨_, fun p => Row.Old.call (C2.out _ (P0.out p)), hK _ ?_⟩
           clear hK K)
          refine Pw.load rfl (by rfl) 33 _ rfl ⟨tb, 0, none⟩ rfl c _ (fun p => A1.out _ (P0.out p)) Try.underlying33 rfl IA.out ?_
          (try dsimp only [Act.put]); (try simp only [List.setIfInBounds_toArray, List.set_cons_zero, List.set_cons_succ])
          iterate 2
            (refine Pw.calm rfl (fun K hK => ?_)
             go_simp
             refine hK _ ?_
             clear hK K)
          (refine Pw.calm rfl (fun K hK => ?_)
           go_simp
           refine ⟨_, fun p => Row.Old.call (C1.out _ (P0.out p)), hK _ ?_⟩
           clear hK K)
          iterate 1
            (refine Pw.calm rfl (fun K hK => ?_)
             go_simp
             refine hK _ ?_
             clear hK K)
          (try simp only [beq_self_eq_true])
          iterate 2
            (refine Pw.calm rfl (fun K hK => ?_)
             go_simp
             refine hK _ ?_
             clear hK K)
          refine Pw.load rfl (by rfl) 33 _ rfl ⟨tb, 0, none⟩ rfl c _ (fun p => A1.out _ (P0.out p)) Try.underlying33 rfl IA.out ?_
          (try dsimp only [Act.put]); (try simp only [List.setIfInBounds_toArray, List.set_cons_zero, List.set_cons_succ])
          iterate 2
            (refine Pw.calm rfl (fun K hK => ?_)
             go_simp
             refine hK _ ?_
             clear hK K)
          (refine Pw.calm rfl (fun K hK => ?_)
           go_simp
           refine ⟨_, fun p => Row.Old.call (C3.out _ (P0.out p)), hK _ ?_⟩
           clear hK K)
          iterate 4
            (refine Pw.calm rfl (fun K hK => ?_)
             go_simp
             refine hK _ ?_
             clear hK K)
          refine Pw.load rfl (by rfl) 33 _ rfl ⟨tb, 0, none⟩ rfl c _ (fun p => A1.out _ (P0.out p)) Try.underlying33 rfl IA.out ?_
          (try dsimp only [Act.put]); (try simp only [List.setIfInBounds_toArray, List.set_cons_zero, List.set_cons_succ])
          (refine Pw.calm rfl (fun K hK => ?_)
           go_simp
           refine ⟨_, fun p => Row.Old.call (O1.out _ (P0.out p)), hK _ ?_⟩
           clear hK K)
          iterate 1
            (refine Pw.calm rfl (fun K hK => ?_)
             go_simp
             refine hK _ ?_
             clear hK K)
          (refine Pw.calm rfl (fun K hK => ?_)
           go_simp
           refine ⟨_, fun p => Row.Old.call (HA.out _), hK _ ?_⟩
           clear hK K)
          iterate 1
            (refine Pw.calm rfl (fun K hK => ?_)
             go_simp
             refine hK _ ?_
             clear hK K)
          (try simp only [beq_self_eq_true])
          iterate 2
            (refine Pw.calm rfl (fun K hK => ?_)
             go_simp
             refine hK _ ?_
             clear hK K)
          (refine Pw.calm rfl (fun K hK => ?_)
           go_simp
           refine ⟨_, fun p => Row.Old.call (Wa8.awake_any _), hK _ ?_⟩
           clear hK K)
          iterate 2
            (refine Pw.calm rfl (fun K hK => ?_)
             go_simp
             refine hK _ ?_
             clear hK K)
          refine Pw.nil ?_
          intro u9 hb9
          have E := Lib.hid (A0.out.trans ((B2.out.trans (hb9.mono B2.out.size)).mono A0.out.size))
          clear hb9 hne P0
          go_wp2
          go_ret
          exact ⟨rfl, E.out⟩
        · have hkb : (k1 != k2) = true := by simpa using hk
          have hgb : (g1 == g2) = true := by simp [hg]
          have C1 : Hid (∀ W, Below u.heap.size u W → Calls Try.prog 23 #[.agg c.toArray, .int .i64 p, .int .i64 q] W fun e w' => e = .returned (.bool true) ∧ Below W.heap.size W w') := Lib.hid (fun W hb => by have h1 : beside (genTab L) p q = true := (by rw [BE.out]; simp [hg, hk]); have h2 := BC.out p q W hb; rw [h1] at h2; exact h2)
          have C2 : Hid (∀ W, Below u.heap.size u W → Calls Try.prog 23 #[.agg c.toArray, .int .i64 q, .int .i64 p] W fun e w' => e = .returned (.bool true) ∧ Below W.heap.size W w') := Lib.hid (fun W hb => by have h1 : beside (genTab L) q p = true := (by rw [BS.out, BE.out]; simp [hg, hk]); have h2 := BC.out q p W hb; rw [h1] at h2; exact h2)
          have C3 : Hid (∀ W, Below u.heap.size u W → Calls Try.prog 23 #[.agg c.toArray, .int .i64 p, .int .i64 p] W fun e w' => e = .returned (.bool false) ∧ Below W.heap.size W w') := Lib.hid (fun W hb => by have h1 : beside (genTab L) p p = false := (by exact BF.out); have h2 := BC.out p p W hb; rw [h1] at h2; exact h2)
          have HA : Hid (∀ W : World, Calls Try.prog 34 #[.int .i64 o, .int .i64 p] W fun e w' => e = .returned (.bool true) ∧ Below W.heap.size W w') := Lib.hid (fun W => (RefS.rhas_any o p W).mono fun _ _ ⟨e, q⟩ => ⟨by rw [e, O2.out], q ▸ Below.refl _ _⟩)
          clear BE BS BF BC O2
          have hne : Nonempty (Ph.S (Row.Old u2)) := ⟨⟨0, u2, Below.refl _ _⟩⟩
          have P0 : Hid (∀ p : Ph.S (Row.Old u2), Below u.heap.size u p.world) := Lib.hid (fun p => B2.out.trans (p.is.mono B2.out.size))
          refine Pw.region (Row.Old u2) [] (by kernel_rfl) (by kernel_rfl) (Row.Old.drew _) ?_
          refine Pw.load rfl (by rfl) 33 _ rfl ⟨tb, 0, none⟩ rfl c _ (fun p => A1.out _ (P0.out p)) Try.underlying33 rfl IA.out ?_
          (try dsimp only [Act.put]); (try simp only [List.setIfInBounds_toArray, List.set_cons_zero, List.set_cons_succ])
          iterate 2
            (refine Pw.calm rfl (fun K hK => ?_)
             go_simp
             refine hK _ ?_
             clear hK K)
          (refine Pw.calm rfl (fun K hK => ?_)
           go_simp
           refine ⟨_, fun p => Row.Old.call (C1.out _ (P0.out p)), hK _ ?_⟩
           clear hK K)
          iterate 15
            (refine Pw.calm rfl (fun K hK => ?_)
             go_simp
             refine hK _ ?_
             clear hK K)
          (try simp only [beq_self_eq_true])
          iterate 1
            (refine Pw.calm rfl (fun K hK => ?_)
             go_simp
             refine hK _ ?_
             clear hK K)
          refine Pw.load rfl (by rfl) 33 _ rfl ⟨tb, 0, none⟩ rfl c _ (fun p => A1.out _ (P0.out p)) Try.underlying33 rfl IA.out ?_
          (try dsimp only [Act.put]); (try simp only [List.setIfInBounds_toArray, List.set_cons_zero, List.set_cons_succ])
          iterate 2
            (refine Pw.calm rfl (fun K hK => ?_)
             go_simp
             refine hK _ ?_
             clear hK K)
          (refine Pw.calm rfl (fun K hK => ?_)
           go_simp
           refine ⟨_, fun p => Row.Old.call (C2.out _ (P0.out p)), hK _ ?_⟩
           clear hK K)
          refine Pw.load rfl (by rfl) 33 _ rfl ⟨tb, 0, none⟩ rfl c _ (fun p => A1.out _ (P0.out p)) Try.underlying33 rfl IA.out ?_
          (try dsimp only [Act.put]); (try simp only [List.setIfInBounds_toArray, List.set_cons_zero, List.set_cons_succ])
          iterate 2
            (refine Pw.calm rfl (fun K hK => ?_)
             go_simp
             refine hK _ ?_
             clear hK K)
          (refine Pw.calm rfl (fun K hK => ?_)
           go_simp
           refine ⟨_, fun p => Row.Old.call (C1.out _ (P0.out p)), hK _ ?_⟩
           clear hK K)
          iterate 1
            (refine Pw.calm rfl (fun K hK => ?_)
             go_simp
             refine hK _ ?_
             clear hK K)
          (try simp only [beq_self_eq_true])
          iterate 2
            (refine Pw.calm rfl (fun K hK => ?_)
             go_simp
             refine hK _ ?_
             clear hK K)
          refine Pw.load rfl (by rfl) 33 _ rfl ⟨tb, 0, none⟩ rfl c _ (fun p => A1.out _ (P0.out p)) Try.underlying33 rfl IA.out ?_
          (try dsimp only [Act.put]); (try simp only [List.setIfInBounds_toArray, List.set_cons_zero, List.set_cons_succ])
          iterate 2
            (refine Pw.calm rfl (fun K hK => ?_)
             go_simp
             refine hK _ ?_
             clear hK K)
          (refine Pw.calm rfl (fun K hK => ?_)
           go_simp
           refine ⟨_, fun p => Row.Old.call (C3.out _ (P0.out p)), hK _ ?_⟩
           clear hK K)
          iterate 4
            (refine Pw.calm rfl (fun K hK => ?_)
             go_simp
             refine hK _ ?_
             clear hK K)
          refine Pw.load rfl (by rfl) 33 _ rfl ⟨tb, 0, none⟩ rfl c _ (fun p => A1.out _ (P0.out p)) Try.underlying33 rfl IA.out ?_
          (try dsimp only [Act.put]); (try simp only [List.setIfInBounds_toArray, List.set_cons_zero, List.set_cons_succ])
          (refine Pw.calm rfl (fun K hK => ?_)
           go_simp
           refine ⟨_, fun p => Row.Old.call (O1.out _ (P0.out p)), hK _ ?_⟩
           clear hK K)
          iterate 1
            (refine Pw.calm rfl (fun K hK => ?_)
             go_simp
             refine hK _ ?_
             clear hK K)
          (refine Pw.calm rfl (fun K hK => ?_)
           go_simp
           refine ⟨_, fun p => Row.Old.call (HA.out _), hK _ ?_⟩
           clear hK K)
          iterate 1
            (refine Pw.calm rfl (fun K hK => ?_)
             go_simp
             refine hK _ ?_
             clear hK K)
          (try simp only [beq_self_eq_true])
          iterate 2
            (refine Pw.calm rfl (fun K hK => ?_)
             go_simp
             refine hK _ ?_
             clear hK K)
          (refine Pw.calm rfl (fun K hK => ?_)
           go_simp
           refine ⟨_, fun p => Row.Old.call (Wa8.awake_any _), hK _ ?_⟩
           clear hK K)
          iterate 2
            (refine Pw.calm rfl (fun K hK => ?_)
             go_simp
             refine hK _ ?_
             clear hK K)
          refine Pw.nil ?_
          intro u9 hb9
          have E := Lib.hid (A0.out.trans ((B2.out.trans (hb9.mono B2.out.size)).mono A0.out.size))
          clear hb9 hne P0
          go_wp2
          go_ret
          exact ⟨rfl, E.out⟩
      · have hgb : (g1 == g2) = false := by simpa using hg
        have C1 : Hid (∀ W, Below u.heap.size u W → Calls Try.prog 23 #[.agg c.toArray, .int .i64 p, .int .i64 q] W fun e w' => e = .returned (.bool false) ∧ Below W.heap.size W w') := Lib.hid (fun W hb => by have h1 : beside (genTab L) p q = false := (by rw [BE.out]; simp [hg]); have h2 := BC.out p q W hb; rw [h1] at h2; exact h2)
        have C2 : Hid (∀ W, Below u.heap.size u W → Calls Try.prog 23 #[.agg c.toArray, .int .i64 q, .int .i64 p] W fun e w' => e = .returned (.bool false) ∧ Below W.heap.size W w') := Lib.hid (fun W hb => by have h1 : beside (genTab L) q p = false := (by rw [BS.out, BE.out]; simp [hg]); have h2 := BC.out q p W hb; rw [h1] at h2; exact h2)
        have C3 : Hid (∀ W, Below u.heap.size u W → Calls Try.prog 23 #[.agg c.toArray, .int .i64 p, .int .i64 p] W fun e w' => e = .returned (.bool false) ∧ Below W.heap.size W w') := Lib.hid (fun W hb => by have h1 : beside (genTab L) p p = false := (by exact BF.out); have h2 := BC.out p p W hb; rw [h1] at h2; exact h2)
        have HA : Hid (∀ W : World, Calls Try.prog 34 #[.int .i64 o, .int .i64 p] W fun e w' => e = .returned (.bool true) ∧ Below W.heap.size W w') := Lib.hid (fun W => (RefS.rhas_any o p W).mono fun _ _ ⟨e, q⟩ => ⟨by rw [e, O2.out], q ▸ Below.refl _ _⟩)
        clear BE BS BF BC O2
        have hne : Nonempty (Ph.S (Row.Old u2)) := ⟨⟨0, u2, Below.refl _ _⟩⟩
        have P0 : Hid (∀ p : Ph.S (Row.Old u2), Below u.heap.size u p.world) := Lib.hid (fun p => B2.out.trans (p.is.mono B2.out.size))
        refine Pw.region (Row.Old u2) [] (by kernel_rfl) (by kernel_rfl) (Row.Old.drew _) ?_
        refine Pw.load rfl (by rfl) 33 _ rfl ⟨tb, 0, none⟩ rfl c _ (fun p => A1.out _ (P0.out p)) Try.underlying33 rfl IA.out ?_
        (try dsimp only [Act.put]); (try simp only [List.setIfInBounds_toArray, List.set_cons_zero, List.set_cons_succ])
        iterate 2
          (refine Pw.calm rfl (fun K hK => ?_)
           go_simp
           refine hK _ ?_
           clear hK K)
        (refine Pw.calm rfl (fun K hK => ?_)
         go_simp
         refine ⟨_, fun p => Row.Old.call (C1.out _ (P0.out p)), hK _ ?_⟩
         clear hK K)
        iterate 15
          (refine Pw.calm rfl (fun K hK => ?_)
           go_simp
           refine hK _ ?_
           clear hK K)
        (try simp only [beq_self_eq_true])
        iterate 1
          (refine Pw.calm rfl (fun K hK => ?_)
           go_simp
           refine hK _ ?_
           clear hK K)
        refine Pw.load rfl (by rfl) 33 _ rfl ⟨tb, 0, none⟩ rfl c _ (fun p => A1.out _ (P0.out p)) Try.underlying33 rfl IA.out ?_
        (try dsimp only [Act.put]); (try simp only [List.setIfInBounds_toArray, List.set_cons_zero, List.set_cons_succ])
        iterate 2
          (refine Pw.calm rfl (fun K hK => ?_)
           go_simp
           refine hK _ ?_
           clear hK K)
        (refine Pw.calm rfl (fun K hK => ?_)
         go_simp
         refine ⟨_, fun p => Row.Old.call (C2.out _ (P0.out p)), hK _ ?_⟩
         clear hK K)
        refine Pw.load rfl (by rfl) 33 _ rfl ⟨tb, 0, none⟩ rfl c _ (fun p => A1.out _ (P0.out p)) Try.underlying33 rfl IA.out ?_
        (try dsimp only [Act.put]); (try simp only [List.setIfInBounds_toArray, List.set_cons_zero, List.set_cons_succ])
        iterate 2
          (refine Pw.calm rfl (fun K hK => ?_)
           go_simp
           refine hK _ ?_
           clear hK K)
        (refine Pw.calm rfl (fun K hK => ?_)
         go_simp
         refine ⟨_, fun p => Row.Old.call (C1.out _ (P0.out p)), hK _ ?_⟩
         clear hK K)
        iterate 1
          (refine Pw.calm rfl (fun K hK => ?_)
           go_simp
           refine hK _ ?_
           clear hK K)
        (try simp only [beq_self_eq_true])
        iterate 2
          (refine Pw.calm rfl (fun K hK => ?_)
           go_simp
           refine hK _ ?_
           clear hK K)
        refine Pw.load rfl (by rfl) 33 _ rfl ⟨tb, 0, none⟩ rfl c _ (fun p => A1.out _ (P0.out p)) Try.underlying33 rfl IA.out ?_
        (try dsimp only [Act.put]); (try simp only [List.setIfInBounds_toArray, List.set_cons_zero, List.set_cons_succ])
        iterate 2
          (refine Pw.calm rfl (fun K hK => ?_)
           go_simp
           refine hK _ ?_
           clear hK K)
        (refine Pw.calm rfl (fun K hK => ?_)
         go_simp
         refine ⟨_, fun p => Row.Old.call (C3.out _ (P0.out p)), hK _ ?_⟩
         clear hK K)
        iterate 4
          (refine Pw.calm rfl (fun K hK => ?_)
           go_simp
           refine hK _ ?_
           clear hK K)
        refine Pw.load rfl (by rfl) 33 _ rfl ⟨tb, 0, none⟩ rfl c _ (fun p => A1.out _ (P0.out p)) Try.underlying33 rfl IA.out ?_
        (try dsimp only [Act.put]); (try simp only [List.setIfInBounds_toArray, List.set_cons_zero, List.set_cons_succ])
        (refine Pw.calm rfl (fun K hK => ?_)
         go_simp
         refine ⟨_, fun p => Row.Old.call (O1.out _ (P0.out p)), hK _ ?_⟩
         clear hK K)
        iterate 1
          (refine Pw.calm rfl (fun K hK => ?_)
           go_simp
           refine hK _ ?_
           clear hK K)
        (refine Pw.calm rfl (fun K hK => ?_)
         go_simp
         refine ⟨_, fun p => Row.Old.call (HA.out _), hK _ ?_⟩
         clear hK K)
        iterate 1
          (refine Pw.calm rfl (fun K hK => ?_)
           go_simp
           refine hK _ ?_
           clear hK K)
        (try simp only [beq_self_eq_true])
        iterate 2
          (refine Pw.calm rfl (fun K hK => ?_)
           go_simp
           refine hK _ ?_
           clear hK K)
        (refine Pw.calm rfl (fun K hK => ?_)
         go_simp
         refine ⟨_, fun p => Row.Old.call (Wa8.awake_any _), hK _ ?_⟩
         clear hK K)
        iterate 2
          (refine Pw.calm rfl (fun K hK => ?_)
           go_simp
           refine hK _ ?_
           clear hK K)
        refine Pw.nil ?_
        intro u9 hb9
        have E := Lib.hid (A0.out.trans ((B2.out.trans (hb9.mono B2.out.size)).mono A0.out.size))
        clear hb9 hne P0
        go_wp2
        go_ret
        exact ⟨rfl, E.out⟩

/-! ### the row's step -/
set_option maxRecDepth 100000 in
theorem lifted (os : Os) (started : os.Started) (H : Type) (enc : TypeId × Value → H) :
    ReturnsInHanded {} Try.checked os 9 .any (Rows.planBesideSpec.pre6 enc Try.prog Try.f9 Rows.planBesideRow.domain false) (Rows.planBesideSpec.post enc Try.prog Try.f9 false true false false) := by
  refine returnsInHanded_of_change (C := Try.checked) own started (by kernel_rfl) Try.func9
    (ChangeSpec.witness6 (enc := enc) (C := Try.checked) false ⟨#[], #[.slice none 0 0, .int .i64 0, .int .i64 0], []⟩ 8 (by kernel_rfl) (by kernel_rfl) (by kernel_rfl) (by kernel_rfl)) ?_
  intro W base args ds gs before hval0 hW hcnd _
  have hval : ∀ (j : Nat) t v, Try.f9.params[j]? = some t → args[j]? = some v → Value.okWide Try.prog W .any base t v := hval0
  have hW' := hW
  obtain ⟨p, q, hA0, hV, rfl, hfz, hnd⟩ := hW
  have hA : DataW.TrodAll enc Try.prog W 0 (fun _ => true) true Try.f9.params.toList args.toList ds p := hA0
  rw [Try.params9] at hA hval
  obtain ⟨v0, vs0, d0, ds0, p0, q0, hargs, rfl, rfl, h0, r0⟩ := trodAll_cons hA
  obtain ⟨v1, vs1, d1, ds1, p1, q1, rfl, rfl, rfl, h1, r1⟩ := trodAll_cons r0
  obtain ⟨v2, vs2, d2, ds2, p2, q2, rfl, rfl, rfl, h2, r2⟩ := trodAll_cons r1
  obtain ⟨rfl, rfl, rfl⟩ := trodAll_nil r2
  obtain rfl : args = #[v0, v1, v2] := by cases args; simp_all
  obtain ⟨rfl, rfl⟩ := trodVars_none hV
  obtain ⟨a0, len0, cap0, rfl⟩ := okWide_slice Try.underlying22 (hval 0 22 v0 rfl rfl)
  have k0 := h0
  have lt0 : ∀ x ∈ p0, x.block < W.heap.size := by obtain ⟨m, hm⟩ := k0; exact DataW.trod_lt m _ _ _ hm
  obtain ⟨z0, w0⟩ : ∃ zs, IsRow .i64 W a0 len0 cap0 zs := by
    obtain ⟨fuel, hf⟩ := h0
    rcases open_ints Try.underlying22 Try.underlying3 (by kernel_rfl) hf with ⟨hcs, _⟩ | ⟨x, l, c, zs, hcs, _, hl, hm, hz, _, hcell, hwz⟩
    · simp [Value.cells] at hcs
      obtain ⟨rfl, rfl, rfl⟩ := hcs
      exact ⟨[], .inl ⟨rfl, rfl, rfl, rfl⟩⟩
    · simp [Value.cells] at hcs
      obtain ⟨rfl, rfl, rfl⟩ := hcs
      exact ⟨zs, .inr ⟨_, rfl, hl, hm, by simpa using hz, hcell, hwz⟩⟩
  obtain ⟨a1, rfl, rfl, rfl, w1⟩ := open_int Try.underlying3 (hval 1 3 v1 rfl rfl) h1
  obtain ⟨a2, rfl, rfl, rfl, w2⟩ := open_int Try.underlying3 (hval 2 3 v2 rfl rfl) h2
  clear hA0 hval0
  refine (walk a0 len0 cap0 z0 a1 a2 W w0 w1 w2).mono fun e W' ⟨he, bel⟩ => ?_
  subst he
  exact ⟨_, rfl, _, _, _, [], _, [], hW', trodAll_mk1 (shut_bool Try.underlying4 _), (trodAll_cons_mk (Below.trod laidOut (by kernel_rfl) (of_decide_eq_true (by kernel_rfl)) k0 bel lt0) (trodAll_cons_mk (shut_int Try.underlying3 w1) (trodAll_cons_mk (shut_int Try.underlying3 w2) trodAll_mk0))), rfl, bel.frame _, fun h => by cases h⟩

theorem over : Rows.planBesideRow.holds Try.pinned (OpenSpec.ofChange Rows.planBesideSpec) :=
  OpenClaim.holds_of_wide 9 Try.f9 rfl rfl rfl rfl rfl rfl rfl ⟨rfl, rfl, rfl, rfl, rfl⟩ rfl rfl rfl rfl rfl (by kernel_rfl) Try.func9 (by kernel_rfl)
    (of_decide_eq_true (by kernel_rfl)) (by unfold Func.isWrapper; first | (rw [if_pos (by decide +kernel)]; kernel_rfl) | (rw [if_neg (by decide +kernel)]; exact ⟨rfl, rfl⟩))
    (fun os started H enc _ => lifted os started H enc)

/-- the statement -/
theorem proved : Rows.PlanBesideSaid :=
  over
#print axioms proved
end Go.Proofs.Ytfnpcfibgabmfaa.planBeside
