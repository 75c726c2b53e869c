/- CallsRecall returns true at any numbers, any phase, whether it is green or walks: recalls call where nothing came. No condition. -/
import Derived.Test.YtneaomdgjlmleaaRows
import Derived.Test.YtneaomdgjlmleaaPart03
import Derived.Test.YtneaomdgjlmleaaPart06
import Derived.Test.YtneaomdgjlmleaaPart08
import Derived.Test.YtneaomdgjlmleaaPart02
import Derived.Deep.Cut
import Derived.Deep.CutRange
import Derived.LoopTactic
import Derived.BigQuiet
import Derived.WalkKit
import Derived.WalkLawsBesides
import Derived.ProofKit
import Derived.OpenShut
import Derived.ShutString
import Derived.ChangeOld
import Derived.Below
set_option linter.unusedVariables false
set_option linter.unusedSimpArgs false
set_option linter.unusedSectionVars false
set_option maxHeartbeats 8000000
set_option maxRecDepth 100000
namespace Go.Proofs.Ytneaomdgjlmleaa
namespace callsRecall
open Go.ChangeShapes Go.WideShapes Go.ChangeAt Go.RowKit
open Tab Cl QL
open GenT (genTab)
theorem own : ownKnob Try.prog.godebug = none := by kernel_rfl
theorem laidOut : laidOutB Try.prog = true := by kernel_rfl
/-- WHAT THE WALK IS TOLD OF A SLICE OF INTEGERS THAT CAME IN: it is nil; or it leads to a row of 'cap' cells, the numbers 'zs' (the first 'len' are its elements, the rest its spare room), each fitting its kind. -/
def IsRow (k : IntKind) (w : World) (a : Option Addr) (len cap : Nat) (zs : List Int) : Prop :=
  (a = none ∧ len = 0 ∧ cap = 0 ∧ zs = []) ∨
  ∃ x, a = some x ∧ len ≤ cap ∧ cap ≤ maxLen ∧ zs.length = cap ∧ (∀ i, i < zs.length → w.cell? (x.add i) = some (.int k (zs.getD i 0))) ∧ ∀ n ∈ zs, (Lit.int k n).wf = true
theorem isRow_int {w : World} {a : Option Addr} {len cap : Nat} {zs : List Int} (h : IsRow .i64 w a len cap zs) : (zs.take len).length = len ∧ Tab.IntRow w ⟨a, cap⟩ (zs.take len) := by
  rcases h with ⟨rfl, rfl, rfl, rfl⟩ | ⟨x, rfl, h1, h2, h3, h4, _⟩
  · exact ⟨rfl, .inl ⟨rfl, rfl, rfl⟩⟩
  · have hl : (zs.take len).length = len := by rw [List.length_take]; omega
    refine ⟨hl, .inr ⟨x, rfl, by rw [hl]; exact h1, h2, fun i v hv j u hu => ?_⟩⟩
    have hi : i < len := by have := (List.getElem?_eq_some_iff.1 hv).1; omega
    match j, hu with
    | 0, hu =>
      simp at hu
      subst hu
      rw [List.getElem?_take, if_pos hi] at hv
      have := h4 i (by omega)
      rw [List.getD_eq_getElem?_getD, hv] at this
      rw [Nat.mul_one, Tab.add_two, Nat.add_zero]
      exact this
    | j + 1, hu => simp at hu
/-! ### the walk -/
theorem walk (a0 : Option Addr) (len0 cap0 : Nat) (z0 : List Int) (a1 : Int) (a2 : Bool) (a3 : Bool) (w : World) (w0 : IsRow .i64 w a0 len0 cap0 z0) (w1 : (Lit.int .i64 a1).wf = true) :
    Calls Try.prog 5 #[.slice a0 len0 cap0, .int .i64 a1, .bool a2, .bool a3] w fun e w' => e = .returned (.bool true) ∧ Below w.heap.size w w' := by
  obtain ⟨hlen, hrow⟩ := isRow_int w0
  obtain ⟨L, hL⟩ : ∃ L, L = z0.take len0 := ⟨_, rfl⟩
  rw [← hL] at hlen hrow
  clear hL w0
  subst hlen
  have hz := (zero_of_info GenT.infoTz).1
  have hZs : (Clone.zTab.cells Clone.zHd).length = 131 := rfl
  generalize hZ : GenT.zTab.cells GenT.zHd = Z at *
  have ZS : Z.toArray.size = 131 := by rw [← hZ]; rfl
  clear hZ hZs
  have FT : Hid (∀ k : Nat, k < 8 → (Clear.phAt (genTab L) k).recall = 3 → 0 < (Clear.phAt (genTab L) k).walk) := Lib.hid (gen_foot L)
  go_enter Try.func5, Try.ntmps5
  go_wp2_with fail
  refine (GenT.table_any a0 cap0 L w hrow).mono ?_
  rintro e u0 ⟨hd, rfl, ht, hb⟩
  have CS := GenT.cells_cut hd ht.ph ht.cf ht.fl
  have ONE := (cells_ok ht).one
  have T8 := Lib.hid ht.ph
  have HT : Hid (∀ W, Below u0.heap.size u0 W → IsTab W hd (genTab L)) := Lib.hid (fun W hb => ht.below hb)
  have B0 := Lib.hid hb
  have IA : Hid ((Try.prog.info? 31).map (·.size) = some ((genTab L).cells hd).length) := Lib.hid (by rw [CS]; exact May.infoT)
  clear hb ht
  generalize hc : (genTab L).cells hd = c at *
  have HC := Lib.hid hc
  clear hc
  go_upto_region 2 with (refine Row.wpList_store_new rfl 31 _ _ rfl u0 Z.toArray c.toArray rfl rfl rfl (by rw [List.size_toArray]; exact IA.out) (by rw [ZS, List.size_toArray, CS]) ONE ?_)
  have hb2 : Below u0.heap.size u0 (u0.alloc (.cells c.toArray 31)) := (Below.refl _ _).alloc (Nat.le_refl _) _
  have hl : Lies (u0.alloc (.cells c.toArray 31)) ⟨u0.heap.size, 0, none⟩ c := Row.lies_new _ _ _
  have TB0 : Hid (∀ W, Below (u0.alloc (.cells c.toArray 31)).heap.size (u0.alloc (.cells c.toArray 31)) W → IsTab W hd (genTab L)) := Lib.hid (fun W hb => HT.out W (hb2.trans (hb.mono hb2.size)))
  generalize u0.alloc (.cells c.toArray 31) = u at hb2 hl TB0 ⊢
  have TB : Hid (∀ W, Below u.heap.size u W → IsTab W hd (genTab L)) := TB0
  have AB : Hid (Below w.heap.size w u) := Lib.hid (B0.out.trans (hb2.mono B0.out.size))
  have A1 : Hid (∀ W, Below u.heap.size u W → Lies W ⟨u0.heap.size, 0, none⟩ c) := Lib.hid (fun W hb => Lies.below hl hb)
  clear hb2 hl TB0 HT B0 hrow hz ZS ONE CS
  generalize u0.heap.size = tb at *
  generalize genTab L = T at *
  have ST : Hid (∀ W, Below u.heap.size u W → ∀ car foot here push green walk : Int, Calls Try.prog 13 #[.agg c.toArray, .agg #[I car, I foot], .int .i64 here, .int .i64 push, .int .i64 green, .int .i64 walk] W fun e w' => e = .returned (.agg #[I (whS (rCar green car here) T : Nat), I (whS (rFoot walk foot push) T : Nat)]) ∧ Below W.heap.size W w') := Lib.hid (fun W hb car foot here push green walk => by have := step_any (TB.out W hb) car foot here push green walk; rwa [HC.out] at this)
  have WN : Hid (∀ W, Below u.heap.size u W → ∀ car foot here : Int, Calls Try.prog 15 #[.agg c.toArray, .agg #[I car, I foot], .int .i64 here] W fun e w' => e = .returned (.int .i64 (whS (rWant car foot (whS (rHeld here) T : Nat)) T : Nat)) ∧ Below W.heap.size W w') := Lib.hid (fun W hb car foot here => by have := want_any (TB.out W hb) car foot here; rwa [HC.out] at this)
  have HL : Hid (∀ W, Below u.heap.size u W → ∀ here : Int, Calls Try.prog 11 #[.agg c.toArray, .int .i64 here] W fun e w' => e = .returned (.int .i64 (whS (rHeld here) T : Nat)) ∧ Below W.heap.size W w') := Lib.hid (fun W hb here => by have := held_any (TB.out W hb) here; rwa [HC.out] at this)
  have ONC : Hid (∀ W, Below u.heap.size u W → Calls Try.prog 19 #[.agg c.toArray] W fun e w' => e = .returned (.int .i64 (OnS.onS T : Nat)) ∧ Below W.heap.size W w') := Lib.hid (fun W hb => by have := OnS.on_any T hd W (TB.out W hb); rwa [HC.out] at this)
  have A0 := AB
  obtain ⟨k, hk⟩ : ∃ k : Nat, a1 % 8 = (k : Int) := ⟨(a1 % 8).toNat, by have := Int.emod_nonneg a1 (show (8 : Int) ≠ 0 by decide); omega⟩
  have hk8 : k < 8 := by have := Int.emod_lt_of_pos a1 (show (0 : Int) < 8 by decide); omega
  have PL : Hid (∀ W, Calls Try.prog 20 #[.int .i64 a1, .int .i64 8] W fun e w' => e = .returned (.int .i64 k) ∧ W = w') := Lib.hid (fun W => by have := RefS.place_any a1 8 W (by decide) (by decide); rwa [hk] at this)
  have KK := Lib.hid hk8
  have FK := Lib.hid (FT.out k hk8)
  clear hk FT
  have LP : Hid (∀ W, Below u.heap.size u W → Lies W ⟨tb, k * 13, none⟩ (Clear.phAt T k).cells) := Lib.hid (fun W hb => by
    have h := A1.out W hb
    rw [← HC.out] at h
    intro j v hj
    have := h (k * 13 + j) v (cells_at (TB.out W hb) KK.out hj)
    rw [Addr.add_mid, Nat.zero_add] at this
    rwa [Addr.add_mid])
  have KP : Hid (∀ green car here : Int, SetM.has (whS (rCar green car here) T : Nat) k = ((Clear.phAt T k).on && rCar green car here k (Clear.phAt T k))) := Lib.hid (fun _ _ _ => has_wh T8.out KK.out)
  have KF : Hid (∀ walk foot push : Int, SetM.has (whS (rFoot walk foot push) T : Nat) k = ((Clear.phAt T k).on && rFoot walk foot push k (Clear.phAt T k))) := Lib.hid (fun _ _ _ => has_wh T8.out KK.out)
  have KH : Hid (∀ here : Int, SetM.has (whS (rHeld here) T : Nat) k = ((Clear.phAt T k).on && rHeld here k (Clear.phAt T k))) := Lib.hid (fun _ => has_wh T8.out KK.out)
  have KW : Hid (∀ x y z : Int, SetM.has (whS (rWant x y z) T : Nat) k = ((Clear.phAt T k).on && rWant x y z k (Clear.phAt T k))) := Lib.hid (fun _ _ _ => has_wh T8.out KK.out)
  generalize hph : Clear.phAt T k = ph at FK LP KP KF KH KW
  clear hph
  go_upto_region 3 with (go_at_call 20; refine (PL.out _).mono ?_; rintro e w' ⟨rfl, rfl⟩)
  go_wp2_with fail
  have hro : RefS.Row (u.alloc (.cells #[.int .i64 (k : Int)] 3)) (some ⟨u.heap.size, 0, none⟩) [(k : Int)] := row_one u k
  have hbo : Below u.heap.size u (u.alloc (.cells #[.int .i64 (k : Int)] 3)) := (Below.refl _ _).alloc (Nat.le_refl _) _
  refine (RefS.rof_any (some ⟨u.heap.size, 0, none⟩) 1 [(k : Int)] _ hro).mono ?_
  rintro e v0 ⟨rfl, rfl⟩
  clear hro
  generalize World.alloc u _ = v0 at hbo ⊢
  have HO : Hid (∀ j : Nat, SetM.has (SetM.of [(k : Int)] : Nat) j = decide (j = k)) := Lib.hid (fun j => has_one k j KK.out)
  generalize ((SetM.of [(k : Int)] : Nat) : Int) = one at HO ⊢
  have BO := Lib.hid hbo
  clear hbo
  go_upto_region 4 with fail
  have LP0 := Lib.hid (LP.out v0 BO.out)
  have IP : (Try.prog.info? 23).map (·.size) = some ph.cells.length := May.infoP
  go_upto_region 5 with (first | (refine Row.wpList_load_lies rfl 23 _ rfl ⟨tb, k * 13, none⟩ rfl ph.cells _ LP0.out Try.underlying23 rfl IP ?_) | (refine Row.wpList_store_new rfl 23 _ _ rfl _ _ ph.cells.toArray rfl rfl rfl May.infoP rfl (Ph.one _) ?_))
  dsimp only [Act.put]
  (try simp only [List.setIfInBounds_toArray, List.set_cons_zero, List.set_cons_succ])
  have h1 := ((Blk.Bks.nil u).step BO.out).alloc ph.cells.toArray 23
  generalize World.alloc v0 _ = v1 at h1 ⊢
  generalize v0.heap.size = gx at h1 ⊢
  have H1 := Lib.hid h1
  clear h1 BO LP0 IP LP
  go_upto_if 30 with fail
  go_cut [13] from 30 (fun t13 wx => t13 = .int .i64 (gs a2 one) ∧ wx = v1)
  case first =>
    cases a2
    · go_wp2
      go_meet
      case rel => exact ⟨rfl, rfl⟩
    · go_wp2
      go_meet
      case rel => exact ⟨rfl, rfl⟩
  case rest =>
  obtain ⟨rfl, rfl⟩ := hcut
  go_upto_if 32 with fail
  go_cut [14] from 30 (fun t14 wx => t14 = .int .i64 (gs a3 one) ∧ wx = wc)
  case first =>
    cases a3
    · go_wp2
      go_meet
      case rel => exact ⟨rfl, rfl⟩
    · go_wp2
      go_meet
      case rel => exact ⟨rfl, rfl⟩
  case rest =>
  obtain ⟨rfl, hwc⟩ := hcut
  subst hwc
  rename World => wd
  go_wp2_with (refine Row.wpList_load_g 31 _ rfl (by first | rfl | go_simp) ⟨tb, 0, none⟩ rfl c _ (A1.out _ H1.out.bel) Try.underlying31 rfl IA.out ?_)
  refine (ST.out _ H1.out.bel 0 0 0 0 (gs a2 one) (gs a3 one)).mono ?_
  rintro e v2 ⟨rfl, hb⟩
  have E1 : Hid (SetM.has (whS (rCar (gs a2 one) 0 0) T : Nat) k = (ph.on && !a2 && (ph.recall == 1 || ph.recall == 2))) := Lib.hid (by rw [KP.out]; unfold rCar; rw [has_gs a2 HO.out, has_zero]; cases ph.on <;> cases a2 <;> simp)
  have E2 : Hid (SetM.has (whS (rFoot (gs a3 one) 0 0) T : Nat) k = (ph.on && !a3 && (ph.recall == 3))) := Lib.hid (by
    rw [KF.out]; unfold rFoot; rw [has_gs a3 HO.out, has_zero]
    cases hr : (ph.recall == 3) with
    | false => simp
    | true => rw [decide_eq_true (FK.out (by simpa using hr))]; cases ph.on <;> cases a3 <;> simp)
  have E3 : Hid (SetM.has (whS (rHeld 0) T : Nat) k = (ph.on && (ph.recall == 2))) := Lib.hid (by rw [KH.out]; unfold rHeld; rw [has_zero]; simp)
  have E4 : Hid (SetM.has (whS (rWant (whS (rCar (gs a2 one) 0 0) T : Nat) (whS (rFoot (gs a3 one) 0 0) T : Nat) (whS (rHeld 0) T : Nat)) T : Nat) k = ((ph.on && !a2 && (ph.recall == 1 || ph.recall == 2)) || (ph.on && !a3 && (ph.recall == 3)) || (ph.on && (ph.recall == 2)))) := Lib.hid (by
    rw [KW.out]; unfold rWant; rw [E1.out, E2.out, E3.out]
    cases hr : (ph.recall == 3) with
    | false => cases ph.on <;> simp
    | true => rw [decide_eq_true (FK.out (by simpa using hr))]; cases (ph.recall == 1) <;> cases (ph.recall == 2) <;> cases ph.on <;> cases a2 <;> cases a3 <;> rfl)
  have WN1 : Hid (∀ W, Below u.heap.size u W → Calls Try.prog 15 #[.agg c.toArray, .agg #[I (whS (rCar (gs a2 one) 0 0) T : Nat), I (whS (rFoot (gs a3 one) 0 0) T : Nat)], .int .i64 0] W fun e w' => e = .returned (.int .i64 (whS (rWant (whS (rCar (gs a2 one) 0 0) T : Nat) (whS (rFoot (gs a3 one) 0 0) T : Nat) (whS (rHeld 0) T : Nat)) T : Nat)) ∧ Below W.heap.size W w') := Lib.hid (fun W hb => WN.out W hb _ _ 0)
  have HL1 : Hid (∀ W, Below u.heap.size u W → Calls Try.prog 11 #[.agg c.toArray, .int .i64 0] W fun e w' => e = .returned (.int .i64 (whS (rHeld 0) T : Nat)) ∧ Below W.heap.size W w') := Lib.hid (fun W hb => HL.out W hb 0)
  clear KP KF KH KW WN HL ST ONC FK HO PL
  generalize ((whS (rWant (whS (rCar (gs a2 one) 0 0) T : Nat) (whS (rFoot (gs a3 one) 0 0) T : Nat) (whS (rHeld 0) T : Nat)) T : Nat) : Int) = rW at E4 WN1
  generalize ((whS (rCar (gs a2 one) 0 0) T : Nat) : Int) = rC at E1 WN1 ⊢
  generalize ((whS (rFoot (gs a3 one) 0 0) T : Nat) : Int) = rF at E2 WN1 ⊢
  generalize ((whS (rHeld 0) T : Nat) : Int) = rH at E3 HL1
  go_upto_region 11 with fail
  have h2 := (H1.out.step hb).alloc #[I rC, I rF] 33
  generalize World.alloc v2 _ = v3 at h2 ⊢
  generalize v2.heap.size = gc at h2 ⊢
  have H2 := Lib.hid h2
  clear h2 hb H1
  have k0 : v3.cell? ⟨gx, 0, none⟩ = some (.bool ph.on) := H2.out.cell 1 0 rfl rfl
  have k10 : v3.cell? ⟨gx, 10, none⟩ = some (I ph.recall) := H2.out.cell 1 10 rfl rfl
  obtain ⟨b1, hb1⟩ : ∃ b, b = (ph.on && !a2 && (ph.recall == 1 || ph.recall == 2)) := ⟨_, rfl⟩
  obtain ⟨b2, hb2⟩ : ∃ b, b = (ph.on && !a3 && (ph.recall == 3)) := ⟨_, rfl⟩
  obtain ⟨b3, hb3⟩ : ∃ b, b = (ph.on && (ph.recall == 2)) := ⟨_, rfl⟩
  rw [← hb1] at E1
  rw [← hb2] at E2
  rw [← hb3] at E3
  rw [← hb1, ← hb2, ← hb3] at E4
  have V1 := Lib.hid hb1
  have V2 := Lib.hid hb2
  have V3 := Lib.hid hb3
  clear hb1 hb2 hb3
  go_upto_region 11 with fail
  go_cut [16] from 30 (fun t16 wx => t16 = .bool b1 ∧ wx = v3)
  case first =>
    cases ho : ph.on with
    | true =>
      rw [ho] at k0
      cases a2 with
      | true =>
        go_wp2
        go_meet
        case rel => exact ⟨by rw [V1.out, ho]; first | rfl | simp, rfl⟩
      | false =>
        cases h1 : (ph.recall == 1) with
        | true =>
          go_wp2
          go_meet
          case rel => exact ⟨by rw [V1.out, ho, h1]; first | rfl | simp, rfl⟩
        | false =>
          go_wp2
          go_meet
          case rel => exact ⟨by rw [V1.out, ho, h1]; first | rfl | simp, rfl⟩
    | false =>
      rw [ho] at k0
      go_wp2
      go_meet
      case rel => exact ⟨by rw [V1.out, ho]; first | rfl | simp, rfl⟩
  case rest =>
  obtain ⟨rfl, hwc⟩ := hcut
  have hwd := hwc.symm
  subst hwd
  go_upto_region 12 with fail
  go_cut [17] from 30 (fun t17 wx => t17 = .bool b2 ∧ wx = v3)
  case first =>
    cases ho : ph.on with
    | true =>
      rw [ho] at k0
      cases a3 with
      | true =>
        go_wp2
        go_meet
        case rel => exact ⟨by rw [V2.out, ho]; first | rfl | simp, rfl⟩
      | false =>
        go_wp2
        go_meet
        case rel => exact ⟨by rw [V2.out, ho]; first | rfl | simp, rfl⟩
    | false =>
      rw [ho] at k0
      go_wp2
      go_meet
      case rel => exact ⟨by rw [V2.out, ho]; first | rfl | simp, rfl⟩
  case rest =>
  obtain ⟨rfl, hwc⟩ := hcut
  have hwd := hwc.symm
  subst hwd
  go_upto_region 13 with fail
  go_cut [18] from 30 (fun t18 wx => t18 = .bool b3 ∧ wx = v3)
  case first =>
    cases ho : ph.on with
    | true =>
      rw [ho] at k0
      go_wp2
      go_meet
      case rel => exact ⟨by rw [V3.out, ho]; first | rfl | simp, rfl⟩
    | false =>
      rw [ho] at k0
      go_wp2
      go_meet
      case rel => exact ⟨by rw [V3.out, ho]; first | rfl | simp, rfl⟩
  case rest =>
  obtain ⟨rfl, hwc⟩ := hcut
  have hwd := hwc.symm
  subst hwd
  clear k0 k10 V1 V2 V3
  have c0 : v3.cell? ⟨gc, 0, none⟩ = some (I rC) := H2.out.cell 0 0 rfl rfl
  have c1 : v3.cell? ⟨gc, 1, none⟩ = some (I rF) := H2.out.cell 0 1 rfl rfl
  have e1 := E1.out
  have e2 := E2.out
  have e3 := E3.out
  have e4 := E4.out
  clear E1 E2 E3 E4
  cases b1 <;> cases b2 <;> cases b3
  all_goals
    simp only [Bool.or_true, Bool.or_false, Bool.true_or, Bool.false_or] at e4
    go_wp2_with (first | (go_at_call 22; refine (RefS.rhas_any _ _ _).mono ?_; rintro e w' ⟨rfl, rfl⟩; first | rw [e1] | rw [e2] | rw [e3] | rw [e4]) | (refine Row.wpList_load_g 31 _ rfl (by first | rfl | go_simp) ⟨tb, 0, none⟩ rfl c _ (A1.out _ H2.out.bel) Try.underlying31 rfl IA.out ?_))
    refine (HL1.out _ H2.out.bel).mono ?_
    rintro e v4 ⟨rfl, hb⟩
    have H3 := Lib.hid (H2.out.step hb)
    clear hb c0 c1
    go_wp2_with (first | (go_at_call 22; refine (RefS.rhas_any _ _ _).mono ?_; rintro e w' ⟨rfl, rfl⟩; first | rw [e1] | rw [e2] | rw [e3] | rw [e4]) | (refine Row.wpList_load_g 31 _ rfl (by first | rfl | go_simp) ⟨tb, 0, none⟩ rfl c _ (A1.out _ H3.out.bel) Try.underlying31 rfl IA.out ?_) | (refine Row.wpList_load_g 33 _ rfl (by first | rfl | go_simp) ⟨gc, 0, none⟩ rfl [I rC, I rF] _ (by have := Row.lies_of_block (H3.out.at 0 rfl); simpa using this) Try.underlying33 rfl infoC2 ?_))
    refine (WN1.out _ H3.out.bel).mono ?_
    rintro e v5 ⟨rfl, hb⟩
    have H4 := Lib.hid (H3.out.step hb)
    clear hb H3
    go_wp2_with (go_at_call 22; refine (RefS.rhas_any _ _ _).mono ?_; rintro e w' ⟨rfl, rfl⟩; first | rw [e1] | rw [e2] | rw [e3] | rw [e4])
    refine (Cl.awake_any _).mono ?_
    rintro e v6 ⟨rfl, hb⟩
    have BF := Lib.hid (A0.out.trans ((H4.out.step hb).bel.mono A0.out.size))
    clear hb H4
    go_wp2
    go_ret
    exact ⟨rfl, BF.out⟩
/-! ### the row's step -/
theorem lifted (os : Os) (started : os.Started) (H : Type) (enc : TypeId × Value → H) :
    ReturnsInHanded {} Try.checked os 5 .any (Rows.callsRecallSpec.pre6 enc Try.prog Try.f5 Rows.callsRecallRow.domain false) (Rows.callsRecallSpec.post enc Try.prog Try.f5 false true false false) := by
  refine returnsInHanded_of_change (C := Try.checked) own started (by kernel_rfl) Try.func5
    (ChangeSpec.witness6 (enc := enc) (C := Try.checked) false ⟨#[], #[.slice none 0 0, .int .i64 0, .bool false, .bool false], []⟩ 8 (by kernel_rfl) (by kernel_rfl) (by kernel_rfl) (by kernel_rfl)) ?_
  intro W base args ds gs before hval0 hW hcnd _
  have hval : ∀ (j : Nat) t v, Try.f5.params[j]? = some t → args[j]? = some v → Value.okWide Try.prog W .any base t v := hval0
  have hW' := hW
  obtain ⟨p, q, hA0, hV, rfl, hfz, hnd⟩ := hW
  have hA : DataW.TrodAll enc Try.prog W 0 (fun _ => true) true Try.f5.params.toList args.toList ds p := hA0
  rw [Try.params5] at hA hval
  obtain ⟨v0, vs0, d0, ds0, p0, q0, hargs, rfl, rfl, h0, r0⟩ := trodAll_cons hA
  obtain ⟨v1, vs1, d1, ds1, p1, q1, rfl, rfl, rfl, h1, r1⟩ := trodAll_cons r0
  obtain ⟨v2, vs2, d2, ds2, p2, q2, rfl, rfl, rfl, h2, r2⟩ := trodAll_cons r1
  obtain ⟨v3, vs3, d3, ds3, p3, q3, rfl, rfl, rfl, h3, r3⟩ := trodAll_cons r2
  obtain ⟨rfl, rfl, rfl⟩ := trodAll_nil r3
  obtain rfl : args = #[v0, v1, v2, v3] := by cases args; simp_all
  obtain ⟨rfl, rfl⟩ := trodVars_none hV
  obtain ⟨a0, len0, cap0, rfl⟩ := okWide_slice Try.underlying39 (hval 0 39 v0 rfl rfl)
  have k0 := h0
  have lt0 : ∀ x ∈ p0, x.block < W.heap.size := by obtain ⟨m, hm⟩ := k0; exact DataW.trod_lt m _ _ _ hm
  obtain ⟨z0, w0⟩ : ∃ zs, IsRow .i64 W a0 len0 cap0 zs := by
    obtain ⟨fuel, hf⟩ := h0
    rcases open_ints Try.underlying39 Try.underlying3 (by kernel_rfl) hf with ⟨hcs, _⟩ | ⟨x, l, c, zs, hcs, _, hl, hm, hz, _, hcell, hwz⟩
    · simp [Value.cells] at hcs
      obtain ⟨rfl, rfl, rfl⟩ := hcs
      exact ⟨[], .inl ⟨rfl, rfl, rfl, rfl⟩⟩
    · simp [Value.cells] at hcs
      obtain ⟨rfl, rfl, rfl⟩ := hcs
      exact ⟨zs, .inr ⟨_, rfl, hl, hm, by simpa using hz, hcell, hwz⟩⟩
  obtain ⟨a1, rfl, rfl, rfl, w1⟩ := open_int Try.underlying3 (hval 1 3 v1 rfl rfl) h1
  obtain ⟨a2, rfl, rfl, rfl⟩ := open_bool Try.underlying4 (hval 2 4 v2 rfl rfl) h2
  obtain ⟨a3, rfl, rfl, rfl⟩ := open_bool Try.underlying4 (hval 3 4 v3 rfl rfl) h3
  clear hA0 hval0
  refine (walk a0 len0 cap0 z0 a1 a2 a3 W w0 w1).mono fun e W' ⟨he, bel⟩ => ?_
  subst he
  exact ⟨_, rfl, _, _, _, [], _, [], hW', trodAll_mk1 (shut_bool Try.underlying4 _), (trodAll_cons_mk (Below.trod laidOut (by kernel_rfl) (of_decide_eq_true (by kernel_rfl)) k0 bel lt0) (trodAll_cons_mk (shut_int Try.underlying3 w1) (trodAll_cons_mk (shut_bool Try.underlying4 _) (trodAll_cons_mk (shut_bool Try.underlying4 _) trodAll_mk0)))), rfl, bel.frame _, fun h => by cases h⟩
theorem over : Rows.callsRecallRow.holds Try.pinned (OpenSpec.ofChange Rows.callsRecallSpec) :=
  OpenClaim.holds_of_wide 5 Try.f5 rfl rfl rfl rfl rfl rfl rfl ⟨rfl, rfl, rfl, rfl, rfl⟩ rfl rfl rfl rfl rfl (by kernel_rfl) Try.func5 (by kernel_rfl)
    (of_decide_eq_true (by kernel_rfl)) (by unfold Func.isWrapper; first | (rw [if_pos (by decide +kernel)]; kernel_rfl) | (rw [if_neg (by decide +kernel)]; exact ⟨rfl, rfl⟩))
    (fun os started H enc _ => lifted os started H enc)
/-- the statement -/
theorem proved : Rows.CallsRecallSaid :=
  over
#print axioms proved
end callsRecall
end Go.Proofs.Ytneaomdgjlmleaa
