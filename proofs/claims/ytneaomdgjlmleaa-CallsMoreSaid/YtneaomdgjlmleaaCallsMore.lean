/- CallsMore returns true at any numbers, any calls and any sets: who comes more is called no less. No condition. -/
import Derived.Test.YtneaomdgjlmleaaRows
import Derived.Test.YtneaomdgjlmleaaPart03
import Derived.Test.YtneaomdgjlmleaaPart06
import Derived.Test.YtneaomdgjlmleaaPart08
import Derived.Test.YtneaomdgjlmleaaPart02
import Derived.Deep.Cut
import Derived.Deep.CutRange
import Derived.LoopTactic
import Derived.BigQuiet
import Derived.WalkKit
import Derived.WalkLawsBesides
import Derived.ProofKit
import Derived.OpenShut
import Derived.ShutString
import Derived.ChangeOld
import Derived.Below
set_option linter.unusedVariables false
set_option linter.unusedSimpArgs false
set_option linter.unusedSectionVars false
set_option maxHeartbeats 8000000
set_option maxRecDepth 100000
namespace Go.Proofs.Ytneaomdgjlmleaa
namespace callsMore
open Go.ChangeShapes Go.WideShapes Go.ChangeAt Go.RowKit
open Tab Cl QL
open GenT (genTab)
theorem own : ownKnob Try.prog.godebug = none := by kernel_rfl
theorem laidOut : laidOutB Try.prog = true := by kernel_rfl
/-- WHAT THE WALK IS TOLD OF A SLICE OF INTEGERS THAT CAME IN: it is nil; or it leads to a row of 'cap' cells, the numbers 'zs' (the first 'len' are its elements, the rest its spare room), each fitting its kind. -/
def IsRow (k : IntKind) (w : World) (a : Option Addr) (len cap : Nat) (zs : List Int) : Prop :=
  (a = none ∧ len = 0 ∧ cap = 0 ∧ zs = []) ∨
  ∃ x, a = some x ∧ len ≤ cap ∧ cap ≤ maxLen ∧ zs.length = cap ∧ (∀ i, i < zs.length → w.cell? (x.add i) = some (.int k (zs.getD i 0))) ∧ ∀ n ∈ zs, (Lit.int k n).wf = true
theorem isRow_int {w : World} {a : Option Addr} {len cap : Nat} {zs : List Int} (h : IsRow .i64 w a len cap zs) : (zs.take len).length = len ∧ Tab.IntRow w ⟨a, cap⟩ (zs.take len) := by
  rcases h with ⟨rfl, rfl, rfl, rfl⟩ | ⟨x, rfl, h1, h2, h3, h4, _⟩
  · exact ⟨rfl, .inl ⟨rfl, rfl, rfl⟩⟩
  · have hl : (zs.take len).length = len := by rw [List.length_take]; omega
    refine ⟨hl, .inr ⟨x, rfl, by rw [hl]; exact h1, h2, fun i v hv j u hu => ?_⟩⟩
    have hi : i < len := by have := (List.getElem?_eq_some_iff.1 hv).1; omega
    match j, hu with
    | 0, hu =>
      simp at hu
      subst hu
      rw [List.getElem?_take, if_pos hi] at hv
      have := h4 i (by omega)
      rw [List.getD_eq_getElem?_getD, hv] at this
      rw [Nat.mul_one, Tab.add_two, Nat.add_zero]
      exact this
    | j + 1, hu => simp at hu
/-! ### the walk -/
theorem walk (a0 : Option Addr) (len0 cap0 : Nat) (z0 : List Int) (x1 : Cl.Ca) (a2 : Int) (a3 : Int) (a4 : Int) (a5 : Int) (a6 : Int) (w : World) (w0 : IsRow .i64 w a0 len0 cap0 z0) (w2 : (Lit.int .i64 a2).wf = true) (w3 : (Lit.int .i64 a3).wf = true) (w4 : (Lit.int .i64 a4).wf = true) (w5 : (Lit.int .i64 a5).wf = true) (w6 : (Lit.int .i64 a6).wf = true) :
    Calls Try.prog 6 #[.slice a0 len0 cap0, .agg x1.cells.toArray, .int .i64 a2, .int .i64 a3, .int .i64 a4, .int .i64 a5, .int .i64 a6] w fun e w' => e = .returned (.bool true) ∧ Below w.heap.size w w' := by
  obtain ⟨car, foot⟩ := x1
  simp only [Ca.cells]
  obtain ⟨hlen, hrow⟩ := isRow_int w0
  obtain ⟨L, hL⟩ : ∃ L, L = z0.take len0 := ⟨_, rfl⟩
  rw [← hL] at hlen hrow
  clear hL w0
  subst hlen
  have hz := (zero_of_info GenT.infoTz).1
  have hZs : (Clone.zTab.cells Clone.zHd).length = 131 := rfl
  generalize hZ : GenT.zTab.cells GenT.zHd = Z at *
  have ZS : Z.toArray.size = 131 := by rw [← hZ]; rfl
  clear hZ hZs
  have FT : Hid (∀ k : Nat, k < 8 → (Clear.phAt (genTab L) k).recall = 3 → 0 < (Clear.phAt (genTab L) k).walk) := Lib.hid (gen_foot L)
  have hbx := (Blk.Bks.nil w).alloc #[I car, I foot] 33
  go_enter Try.func6, Try.ntmps6
  go_upto_region 1 with fail
  generalize World.alloc w _ = wb at hbx ⊢
  generalize w.heap.size = gc at hbx ⊢
  have HX := Lib.hid hbx
  clear hbx
  have hrow := hrow.below HX.out.bel
  go_wp2_with fail
  refine (GenT.table_any a0 cap0 L wb hrow).mono ?_
  rintro e u0 ⟨hd, rfl, ht, hb⟩
  have CS := GenT.cells_cut hd ht.ph ht.cf ht.fl
  have ONE := (cells_ok ht).one
  have T8 := Lib.hid ht.ph
  have HT : Hid (∀ W, Below u0.heap.size u0 W → IsTab W hd (genTab L)) := Lib.hid (fun W hb => ht.below hb)
  have B0 := Lib.hid hb
  have IA : Hid ((Try.prog.info? 31).map (·.size) = some ((genTab L).cells hd).length) := Lib.hid (by rw [CS]; exact May.infoT)
  clear hb ht
  generalize hc : (genTab L).cells hd = c at *
  have HC := Lib.hid hc
  clear hc
  go_upto_region 2 with (refine Row.wpList_store_new rfl 31 _ _ rfl u0 Z.toArray c.toArray rfl rfl rfl (by rw [List.size_toArray]; exact IA.out) (by rw [ZS, List.size_toArray, CS]) ONE ?_)
  have hb2 : Below u0.heap.size u0 (u0.alloc (.cells c.toArray 31)) := (Below.refl _ _).alloc (Nat.le_refl _) _
  have hl : Lies (u0.alloc (.cells c.toArray 31)) ⟨u0.heap.size, 0, none⟩ c := Row.lies_new _ _ _
  have TB0 : Hid (∀ W, Below (u0.alloc (.cells c.toArray 31)).heap.size (u0.alloc (.cells c.toArray 31)) W → IsTab W hd (genTab L)) := Lib.hid (fun W hb => HT.out W (hb2.trans (hb.mono hb2.size)))
  generalize u0.alloc (.cells c.toArray 31) = u at hb2 hl TB0 ⊢
  have TB : Hid (∀ W, Below u.heap.size u W → IsTab W hd (genTab L)) := TB0
  have AB : Hid (Below wb.heap.size wb u) := Lib.hid (B0.out.trans (hb2.mono B0.out.size))
  have A1 : Hid (∀ W, Below u.heap.size u W → Lies W ⟨u0.heap.size, 0, none⟩ c) := Lib.hid (fun W hb => Lies.below hl hb)
  clear hb2 hl TB0 HT B0 hrow hz ZS ONE CS
  generalize u0.heap.size = tb at *
  generalize genTab L = T at *
  have ST : Hid (∀ W, Below u.heap.size u W → ∀ car foot here push green walk : Int, Calls Try.prog 13 #[.agg c.toArray, .agg #[I car, I foot], .int .i64 here, .int .i64 push, .int .i64 green, .int .i64 walk] W fun e w' => e = .returned (.agg #[I (whS (rCar green car here) T : Nat), I (whS (rFoot walk foot push) T : Nat)]) ∧ Below W.heap.size W w') := Lib.hid (fun W hb car foot here push green walk => by have := step_any (TB.out W hb) car foot here push green walk; rwa [HC.out] at this)
  have WN : Hid (∀ W, Below u.heap.size u W → ∀ car foot here : Int, Calls Try.prog 15 #[.agg c.toArray, .agg #[I car, I foot], .int .i64 here] W fun e w' => e = .returned (.int .i64 (whS (rWant car foot (whS (rHeld here) T : Nat)) T : Nat)) ∧ Below W.heap.size W w') := Lib.hid (fun W hb car foot here => by have := want_any (TB.out W hb) car foot here; rwa [HC.out] at this)
  have HL : Hid (∀ W, Below u.heap.size u W → ∀ here : Int, Calls Try.prog 11 #[.agg c.toArray, .int .i64 here] W fun e w' => e = .returned (.int .i64 (whS (rHeld here) T : Nat)) ∧ Below W.heap.size W w') := Lib.hid (fun W hb here => by have := held_any (TB.out W hb) here; rwa [HC.out] at this)
  have ONC : Hid (∀ W, Below u.heap.size u W → Calls Try.prog 19 #[.agg c.toArray] W fun e w' => e = .returned (.int .i64 (OnS.onS T : Nat)) ∧ Below W.heap.size W w') := Lib.hid (fun W hb => by have := OnS.on_any T hd W (TB.out W hb); rwa [HC.out] at this)
  have A0 : Hid (Below w.heap.size w u) := Lib.hid (HX.out.bel.trans (AB.out.mono HX.out.bel.size))
  have KC0 : Hid (∀ W, Below u.heap.size u W → Lies W ⟨gc, 0, none⟩ [I car, I foot]) := Lib.hid (fun W hb => by have := Row.lies_of_block (((HX.out.step AB.out).step hb).at 0 rfl); simpa using this)
  go_wp2_with (first | (refine Row.wpList_load_g 31 _ rfl (by first | rfl | go_simp) ⟨tb, 0, none⟩ rfl c _ (A1.out _ (Below.refl _ _)) Try.underlying31 rfl IA.out ?_) | (refine Row.wpList_load_g 33 _ rfl (by first | rfl | go_simp) ⟨gc, 0, none⟩ rfl [I car, I foot] _ (KC0.out _ (Below.refl _ _)) Try.underlying33 rfl infoC2 ?_))
  refine (ST.out u (Below.refl _ _) car foot a2 a3 a5 a6).mono ?_
  rintro e u1 ⟨rfl, hb⟩
  go_upto_region 3 with fail
  have h1 := ((Blk.Bks.nil u).step hb).alloc #[I (whS (rCar a5 car a2) T : Nat), I (whS (rFoot a6 foot a3) T : Nat)] 33
  generalize World.alloc u1 _ = u2 at h1 ⊢
  generalize u1.heap.size = ga at h1 ⊢
  have H1 := Lib.hid h1
  clear h1 hb
  have c0 : u2.cell? ⟨gc, 0, none⟩ = some (I car) := by have := (KC0.out _ H1.out.bel) 0 _ rfl; rwa [Tab.add_zero] at this
  have c1 : u2.cell? ⟨gc, 1, none⟩ = some (I foot) := by have := (KC0.out _ H1.out.bel) 1 _ rfl; rwa [Addr.add_mid, Nat.zero_add] at this
  go_wp2_with (refine Row.wpList_load_g 31 _ rfl (by first | rfl | go_simp) ⟨tb, 0, none⟩ rfl c _ (A1.out _ H1.out.bel) Try.underlying31 rfl IA.out ?_)
  refine (ST.out _ H1.out.bel _ _ _ _ _ _).mono ?_
  rintro e u3 ⟨rfl, hb⟩
  clear c0 c1
  go_upto_region 4 with fail
  have h3 := (H1.out.step hb).alloc #[I (whS (rCar a5 (bits .or .i64 car a4) (bits .or .i64 a2 (a4 / 65536))) T : Nat), I (whS (rFoot a6 (bits .or .i64 foot (a4 / 256)) (bits .or .i64 a3 (a4 / 16777216))) T : Nat)] 33
  generalize World.alloc u3 _ = u4 at h3 ⊢
  generalize u3.heap.size = gb at h3 ⊢
  have H3 := Lib.hid h3
  clear h3 hb H1
  have E1 := Lib.hid (wh_within T8.out (fun k hk _ h => more_car (T := T) a5 car a2 a4 (a4 / 65536) k h))
  have E2 := Lib.hid (wh_within T8.out (fun k hk _ h => more_foot (T := T) a6 foot a3 (a4 / 256) (a4 / 16777216) k h))
  have E3 := Lib.hid (more_want T8.out (here := a2) (n := a4 / 65536) (fun k hk h => wh_le T8.out (fun k hk _ h => more_car (T := T) a5 car a2 a4 (a4 / 65536) k h) hk h) (fun k hk h => wh_le T8.out (fun k hk _ h => more_foot (T := T) a6 foot a3 (a4 / 256) (a4 / 16777216) k h) hk h))
  generalize ((whS (rCar a5 car a2) T : Nat) : Int) = p1 at H3 E1 E3 ⊢
  generalize ((whS (rFoot a6 foot a3) T : Nat) : Int) = p2 at H3 E2 E3 ⊢
  generalize ((whS (rCar a5 (bits .or .i64 car a4) (bits .or .i64 a2 (a4 / 65536))) T : Nat) : Int) = q1 at H3 E1 E3 ⊢
  generalize ((whS (rFoot a6 (bits .or .i64 foot (a4 / 256)) (bits .or .i64 a3 (a4 / 16777216))) T : Nat) : Int) = q2 at H3 E2 E3 ⊢
  have e1 := E1.out
  have e2 := E2.out
  have e3 := E3.out
  have WN1 : Hid (∀ W, Below u.heap.size u W → Calls Try.prog 15 #[.agg c.toArray, .agg #[I p1, I p2], .int .i64 a2] W fun e w' => e = .returned (.int .i64 (whS (rWant p1 p2 (whS (rHeld a2) T : Nat)) T : Nat)) ∧ Below W.heap.size W w') := Lib.hid (fun W hb => WN.out W hb _ _ _)
  have WN2 : Hid (∀ W, Below u.heap.size u W → Calls Try.prog 15 #[.agg c.toArray, .agg #[I q1, I q2], .int .i64 (bits .or .i64 a2 (a4 / 65536))] W fun e w' => e = .returned (.int .i64 (whS (rWant q1 q2 (whS (rHeld (bits .or .i64 a2 (a4 / 65536))) T : Nat)) T : Nat)) ∧ Below W.heap.size W w') := Lib.hid (fun W hb => WN.out W hb _ _ _)
  generalize ((whS (rWant p1 p2 (whS (rHeld a2) T : Nat)) T : Nat) : Int) = wa at e3 WN1
  generalize ((whS (rWant q1 q2 (whS (rHeld (bits .or .i64 a2 (a4 / 65536))) T : Nat)) T : Nat) : Int) = wb2 at e3 WN2
  clear E1 E2 E3 WN ST HL ONC
  have d1 : (bits .andNot .i64 p1 q1 == 0) = true := by rw [e1]; rfl
  have d2 : (bits .andNot .i64 p2 q2 == 0) = true := by rw [e2]; rfl
  have d3 : (bits .andNot .i64 wa wb2 == 0) = true := by rw [e3]; rfl
  clear e1 e2 e3
  have UB : Hid (∀ W, Below u4.heap.size u4 W → Below u.heap.size u W) := Lib.hid (fun W b => H3.out.bel.trans (b.mono H3.out.bel.size))
  have A4 : Hid (∀ W, Below u4.heap.size u4 W → Lies W ⟨tb, 0, none⟩ c) := Lib.hid (fun W b => A1.out W (UB.out W b))
  have k0_0 : ∀ p : QB.By u4.heap.size u4, p.world.cell? ⟨gb, 0, none⟩ = some (I q1) := fun p => (H3.out.by p).cell 0 0 rfl rfl
  have k0_1 : ∀ p : QB.By u4.heap.size u4, p.world.cell? ⟨gb, 1, none⟩ = some (I q2) := fun p => (H3.out.by p).cell 0 1 rfl rfl
  have k1_0 : ∀ p : QB.By u4.heap.size u4, p.world.cell? ⟨ga, 0, none⟩ = some (I p1) := fun p => (H3.out.by p).cell 1 0 rfl rfl
  have k1_1 : ∀ p : QB.By u4.heap.size u4, p.world.cell? ⟨ga, 1, none⟩ = some (I p2) := fun p => (H3.out.by p).cell 1 1 rfl rfl
  refine QB.region_below u4.heap.size (by kernel_rfl) (by kernel_rfl) ?_
  repeat first
    | (refine wpQuiet_load rfl 31 _ rfl ⟨tb, 0, none⟩ rfl c _ (fun w' ⟨p, e⟩ => by rw [e]; exact A4.out _ p.below) Try.underlying31 rfl IA.out ?_
       dsimp only [Act.put]
       simp only [List.setIfInBounds_toArray, List.set_cons_zero, List.set_cons_succ])
    | (refine wpQuiet_load rfl 33 _ rfl ⟨gb, 0, none⟩ rfl [I q1, I q2] _ (fun w' ⟨p, e⟩ => by rw [e]; have := Row.lies_of_block ((H3.out.by p).at 0 rfl); simpa using this) Try.underlying33 rfl infoC2 ?_
       dsimp only [Act.put]
       simp only [List.setIfInBounds_toArray, List.set_cons_zero, List.set_cons_succ])
    | (refine wpQuiet_load rfl 33 _ rfl ⟨ga, 0, none⟩ rfl [I p1, I p2] _ (fun w' ⟨p, e⟩ => by rw [e]; have := Row.lies_of_block ((H3.out.by p).at 1 rfl); simpa using this) Try.underlying33 rfl infoC2 ?_
       dsimp only [Act.put]
       simp only [List.setIfInBounds_toArray, List.set_cons_zero, List.set_cons_succ])
    | (quiet_step (first
        | (go_at_call 15; with_reducible exact QB.call_of (Nat.le_refl _) (fun b => WN1.out _ (UB.out _ b)))
        | (go_at_call 15; with_reducible exact QB.call_of (Nat.le_refl _) (fun b => WN2.out _ (UB.out _ b)))
        | (go_at_call 17; with_reducible exact QB.call_of (Nat.le_refl _) (fun b => Cl.awake_any _))))
  refine wpQuiet_nil ?_
  intro _ hw'
  obtain ⟨p, rfl⟩ := hw'
  have HP := Lib.hid (H3.out.by p)
  have BF := Lib.hid (A0.out.trans (HP.out.bel.mono A0.out.size))
  go_wp2
  go_ret
  exact ⟨rfl, BF.out⟩
/-! ### the row's step -/
theorem lifted (os : Os) (started : os.Started) (H : Type) (enc : TypeId × Value → H) :
    ReturnsInHanded {} Try.checked os 6 .any (Rows.callsMoreSpec.pre6 enc Try.prog Try.f6 Rows.callsMoreRow.domain false) (Rows.callsMoreSpec.post enc Try.prog Try.f6 false true false false) := by
  refine returnsInHanded_of_change (C := Try.checked) own started (by kernel_rfl) Try.func6
    (ChangeSpec.witness6 (enc := enc) (C := Try.checked) false ⟨#[], #[.slice none 0 0, .agg (Cl.Ca.cells ⟨0, 0⟩).toArray, .int .i64 0, .int .i64 0, .int .i64 0, .int .i64 0, .int .i64 0], []⟩ 8 (by kernel_rfl) (by kernel_rfl) (by kernel_rfl) (by kernel_rfl)) ?_
  intro W base args ds gs before hval0 hW hcnd _
  have hval : ∀ (j : Nat) t v, Try.f6.params[j]? = some t → args[j]? = some v → Value.okWide Try.prog W .any base t v := hval0
  have hW' := hW
  obtain ⟨p, q, hA0, hV, rfl, hfz, hnd⟩ := hW
  have hA : DataW.TrodAll enc Try.prog W 0 (fun _ => true) true Try.f6.params.toList args.toList ds p := hA0
  rw [Try.params6] at hA hval
  obtain ⟨v0, vs0, d0, ds0, p0, q0, hargs, rfl, rfl, h0, r0⟩ := trodAll_cons hA
  obtain ⟨v1, vs1, d1, ds1, p1, q1, rfl, rfl, rfl, h1, r1⟩ := trodAll_cons r0
  obtain ⟨v2, vs2, d2, ds2, p2, q2, rfl, rfl, rfl, h2, r2⟩ := trodAll_cons r1
  obtain ⟨v3, vs3, d3, ds3, p3, q3, rfl, rfl, rfl, h3, r3⟩ := trodAll_cons r2
  obtain ⟨v4, vs4, d4, ds4, p4, q4, rfl, rfl, rfl, h4, r4⟩ := trodAll_cons r3
  obtain ⟨v5, vs5, d5, ds5, p5, q5, rfl, rfl, rfl, h5, r5⟩ := trodAll_cons r4
  obtain ⟨v6, vs6, d6, ds6, p6, q6, rfl, rfl, rfl, h6, r6⟩ := trodAll_cons r5
  obtain ⟨rfl, rfl, rfl⟩ := trodAll_nil r6
  obtain rfl : args = #[v0, v1, v2, v3, v4, v5, v6] := by cases args; simp_all
  obtain ⟨rfl, rfl⟩ := trodVars_none hV
  obtain ⟨a0, len0, cap0, rfl⟩ := okWide_slice Try.underlying39 (hval 0 39 v0 rfl rfl)
  have k0 := h0
  have lt0 : ∀ x ∈ p0, x.block < W.heap.size := by obtain ⟨m, hm⟩ := k0; exact DataW.trod_lt m _ _ _ hm
  obtain ⟨z0, w0⟩ : ∃ zs, IsRow .i64 W a0 len0 cap0 zs := by
    obtain ⟨fuel, hf⟩ := h0
    rcases open_ints Try.underlying39 Try.underlying3 (by kernel_rfl) hf with ⟨hcs, _⟩ | ⟨x, l, c, zs, hcs, _, hl, hm, hz, _, hcell, hwz⟩
    · simp [Value.cells] at hcs
      obtain ⟨rfl, rfl, rfl⟩ := hcs
      exact ⟨[], .inl ⟨rfl, rfl, rfl, rfl⟩⟩
    · simp [Value.cells] at hcs
      obtain ⟨rfl, rfl, rfl⟩ := hcs
      exact ⟨zs, .inr ⟨_, rfl, hl, hm, by simpa using hz, hcell, hwz⟩⟩
  obtain ⟨c1, rfl, _⟩ := okWide_struct Try.underlying33 (hval 1 33 v1 rfl rfl)
  have k1 := h1
  have lt1 : ∀ x ∈ p1, x.block < W.heap.size := by obtain ⟨m, hm⟩ := k1; exact DataW.trod_lt m _ _ _ hm
  obtain ⟨x1, e1⟩ : ∃ x : Cl.Ca, c1 = x.cells.toArray := by
    obtain ⟨fuel, hf⟩ := h1
    obtain ⟨x, e⟩ := Cl.ca_el (Flat.trod_flat 4 _ _ Cl.flC fuel _ _ hf)
    exact ⟨x, by rw [← e]; simp [Value.cells]⟩
  subst e1
  obtain ⟨a2, rfl, rfl, rfl, w2⟩ := open_int Try.underlying3 (hval 2 3 v2 rfl rfl) h2
  obtain ⟨a3, rfl, rfl, rfl, w3⟩ := open_int Try.underlying3 (hval 3 3 v3 rfl rfl) h3
  obtain ⟨a4, rfl, rfl, rfl, w4⟩ := open_int Try.underlying3 (hval 4 3 v4 rfl rfl) h4
  obtain ⟨a5, rfl, rfl, rfl, w5⟩ := open_int Try.underlying3 (hval 5 3 v5 rfl rfl) h5
  obtain ⟨a6, rfl, rfl, rfl, w6⟩ := open_int Try.underlying3 (hval 6 3 v6 rfl rfl) h6
  clear hA0 hval0
  refine (walk a0 len0 cap0 z0 x1 a2 a3 a4 a5 a6 W w0 w2 w3 w4 w5 w6).mono fun e W' ⟨he, bel⟩ => ?_
  subst he
  exact ⟨_, rfl, _, _, _, [], _, [], hW', trodAll_mk1 (shut_bool Try.underlying4 _), (trodAll_cons_mk (Below.trod laidOut (by kernel_rfl) (of_decide_eq_true (by kernel_rfl)) k0 bel lt0) (trodAll_cons_mk (Below.trod laidOut (by kernel_rfl) (of_decide_eq_true (by kernel_rfl)) k1 bel lt1) (trodAll_cons_mk (shut_int Try.underlying3 w2) (trodAll_cons_mk (shut_int Try.underlying3 w3) (trodAll_cons_mk (shut_int Try.underlying3 w4) (trodAll_cons_mk (shut_int Try.underlying3 w5) (trodAll_cons_mk (shut_int Try.underlying3 w6) trodAll_mk0))))))), rfl, bel.frame _, fun h => by cases h⟩
theorem over : Rows.callsMoreRow.holds Try.pinned (OpenSpec.ofChange Rows.callsMoreSpec) :=
  OpenClaim.holds_of_wide 6 Try.f6 rfl rfl rfl rfl rfl rfl rfl ⟨rfl, rfl, rfl, rfl, rfl⟩ rfl rfl rfl rfl rfl (by kernel_rfl) Try.func6 (by kernel_rfl)
    (of_decide_eq_true (by kernel_rfl)) (by unfold Func.isWrapper; first | (rw [if_pos (by decide +kernel)]; kernel_rfl) | (rw [if_neg (by decide +kernel)]; exact ⟨rfl, rfl⟩))
    (fun os started H enc _ => lifted os started H enc)
/-- the statement -/
theorem proved : Rows.CallsMoreSaid :=
  over
#print axioms proved
end callsMore
end Go.Proofs.Ytneaomdgjlmleaa
