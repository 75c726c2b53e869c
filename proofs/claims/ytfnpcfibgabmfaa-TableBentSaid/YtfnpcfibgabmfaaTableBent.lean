/- TableBent returns true at any numbers and any float: a table by numbers may be; of it with one number changed May and Same return what the document's own return. No condition. -/
import Derived.Test.YtfnpcfibgabmfaaRows
import Derived.Test.YtfnpcfibgabmfaaPart09
import Derived.Test.YtfnpcfibgabmfaaPart11
import Derived.Test.YtfnpcfibgabmfaaPart12
import Derived.Test.YtfnpcfibgabmfaaPart05
import Derived.Deep.Cut
import Derived.WalkKit
import Derived.WalkLawsBesides
import Derived.ProofKit
import Derived.OpenShut
import Derived.ShutString
import Derived.ChangeOld
import Derived.Below
set_option linter.unusedVariables false
set_option linter.unusedSimpArgs false
set_option linter.unusedSectionVars false
namespace Go.Proofs.Ytfnpcfibgabmfaa.tableBent
open Go.ChangeShapes Go.WideShapes Go.ChangeAt Go.RowKit
open Tab PlaceM GenT GenG
open May (infoT)
set_option linter.unusedVariables false
set_option linter.unusedSimpArgs false

theorem own : ownKnob Try.prog.godebug = none := by kernel_rfl
theorem laidOut : laidOutB Try.prog = true := by kernel_rfl

/-- WHAT THE WALK IS TOLD OF A SLICE OF INTEGERS THAT CAME IN: it is nil; or it leads to a row of 'cap' cells, the numbers 'zs' (the first 'len' are its elements, the rest its spare room), each fitting its kind. -/
def IsRow (k : IntKind) (w : World) (a : Option Addr) (len cap : Nat) (zs : List Int) : Prop :=
  (a = none ∧ len = 0 ∧ cap = 0 ∧ zs = []) ∨
  ∃ x, a = some x ∧ len ≤ cap ∧ cap ≤ maxLen ∧ zs.length = cap ∧ (∀ i, i < zs.length → w.cell? (x.add i) = some (.int k (zs.getD i 0))) ∧ ∀ n ∈ zs, (Lit.int k n).wf = true

theorem isRow_int {w : World} {a : Option Addr} {len cap : Nat} {zs : List Int} (h : IsRow .i64 w a len cap zs) : (zs.take len).length = len ∧ Tab.IntRow w ⟨a, cap⟩ (zs.take len) := by
  rcases h with ⟨rfl, rfl, rfl, rfl⟩ | ⟨x, rfl, h1, h2, h3, h4, _⟩
  · exact ⟨rfl, .inl ⟨rfl, rfl, rfl⟩⟩
  · have hl : (zs.take len).length = len := by rw [List.length_take]; omega
    refine ⟨hl, .inr ⟨x, rfl, by rw [hl]; exact h1, h2, fun i v hv j u hu => ?_⟩⟩
    have hi : i < len := by have := (List.getElem?_eq_some_iff.1 hv).1; omega
    match j, hu with
    | 0, hu =>
      simp at hu
      subst hu
      rw [List.getElem?_take, if_pos hi] at hv
      have := h4 i (by omega)
      rw [List.getD_eq_getElem?_getD, hv] at this
      rw [Nat.mul_one, Tab.add_two, Nat.add_zero]
      exact this
    | j + 1, hu => simp at hu
theorem gen_short (L : List Int) : Bend.Short (GenT.genTab L) := by
  have d9 := RefS.num_range L 175 9 (by omega)
  have r4 := RefS.num_range L 176 4 (by omega)
  have b3 := RefS.num_range L 177 3 (by omega)
  have hD : (GenT.genTab L).dets.length = (RefS.num L 175 9).toNat := by unfold GenT.genTab; split <;> exact GenT.down_len _ _ _
  have hR : (GenT.genTab L).rails.length = (RefS.num L 176 4 % 3).toNat := by unfold GenT.genTab; split <;> exact GenT.down_len _ _ _
  have hB : (GenT.genTab L).buses.length = (RefS.num L 177 3).toNat := by unfold GenT.genTab; split <;> exact GenT.down_len _ _ _
  exact ⟨(GenT.genTab_few L).groups, (GenT.genTab_few L).rows, by rw [hD]; omega, by rw [hR]; omega, by rw [hB]; omega⟩

/-! ### the walk -/
set_option maxRecDepth 10000 in
set_option maxHeartbeats 8000000 in
theorem walk (a0 : Option Addr) (len0 cap0 : Nat) (z0 : List Int) (a1 : Int) (a2 : Int) (a3 : Nat) (w : World) (w0 : IsRow .i64 w a0 len0 cap0 z0) (w1 : (Lit.int .i64 a1).wf = true) (w2 : (Lit.int .i64 a2).wf = true) (w3 : (Lit.float .f64 a3).wf = true) :
    Calls Try.prog 3 #[.slice a0 len0 cap0, .int .i64 a1, .int .i64 a2, .float .f64 a3] w fun e w' => e = .returned (.bool true) ∧ Below w.heap.size w w' := by
  obtain ⟨hlen, hrow⟩ := isRow_int w0
  obtain ⟨L, hL⟩ : ∃ L, L = z0.take len0 := ⟨_, rfl⟩
  rw [← hL] at hlen hrow
  clear hL w0
  subst hlen
  have hz := (zero_of_info GenT.infoTz).1
  have hZs : (Clone.zTab.cells Clone.zHd).length = 131 := rfl
  generalize hZ : GenT.zTab.cells GenT.zHd = Z at *
  have ZS : Z.toArray.size = 131 := by rw [← hZ]; rfl
  clear hZ hZs
  have G8 := Lib.hid (GenT.genTab_few L)
  go_enter Try.func3, Try.ntmps3
  go_wp2_with fail
  refine (GenT.table_any a0 cap0 L w hrow).mono ?_
  rintro e u0 ⟨hd, rfl, ht, hb⟩
  have CS := GenT.cells_cut hd ht.ph ht.cf ht.fl
  have ON := (cells_ok ht).one
  have HT : Hid (∀ W, Below u0.heap.size u0 W → IsTab W hd (genTab L)) := Lib.hid (fun W hb => ht.below hb)
  have B0 := Lib.hid hb
  have IA : Hid ((Try.prog.info? 33).map (·.size) = some ((genTab L).cells hd).length) := Lib.hid (by rw [CS]; exact infoT)
  clear hb ht
  generalize hc : (genTab L).cells hd = c at *
  have HC := Lib.hid hc
  clear hc
  go_upto_region 2 with (refine Row.wpList_store_new rfl 33 _ _ rfl u0 Z.toArray c.toArray rfl rfl rfl (by rw [List.size_toArray]; exact IA.out) (by rw [ZS, List.size_toArray, CS]) ON ?_)
  have hb2 : Below u0.heap.size u0 (u0.alloc (.cells c.toArray 33)) := (Below.refl _ _).alloc (Nat.le_refl _) _
  have hl : Lies (u0.alloc (.cells c.toArray 33)) ⟨u0.heap.size, 0, none⟩ c := Row.lies_new _ _ _
  have hs : u0.heap.size < (u0.alloc (.cells c.toArray 33)).heap.size := by simp
  have TB0 : Hid (∀ W, Below (u0.alloc (.cells c.toArray 33)).heap.size (u0.alloc (.cells c.toArray 33)) W → IsTab W hd (genTab L)) := Lib.hid (fun W hb => HT.out W (hb2.trans (hb.mono hb2.size)))
  generalize u0.alloc (.cells c.toArray 33) = u at hb2 hl hs TB0 ⊢
  have TB : Hid (∀ W, Below u.heap.size u W → IsTab W hd (genTab L)) := TB0
  have A0 : Hid (Below w.heap.size w u) := Lib.hid (B0.out.trans (hb2.mono B0.out.size))
  have A1 : Hid (∀ W, Below u.heap.size u W → Lies W ⟨u0.heap.size, 0, none⟩ c) := Lib.hid (fun W hb => Lies.below hl hb)
  clear hb2 hl hs TB0 HT B0 hrow hz ZS ON CS
  generalize u0.heap.size = tb at *
  have LTB : Hid (∀ W, Below u.heap.size u W → Lies W ⟨tb, 0, none⟩ c) := A1
  have SMT : Hid (Bend.Short (genTab L)) := Lib.hid (gen_short L)
  have GM := Lib.hid (gen_may L)
  have K8 := Lib.hid (TB.out u (Below.refl _ _))
  have hz := (zero_of_info GenT.infoTz).1
  generalize hZ : GenT.zTab.cells GenT.zHd = Z at *
  have ZS : Z.toArray.size = 131 := by rw [← hZ]; rfl
  clear hZ G8
  go_wp2_with (refine Row.wpList_load_g 33 _ rfl (by first | rfl | go_simp) ⟨tb, 0, none⟩ rfl c _ (A1.out _ (Below.refl _ _)) Try.underlying33 rfl IA.out ?_)
  have hcl := Clone.clone_any (genTab L) hd u K8.out SMT.out.small
  rw [HC.out] at hcl
  refine hcl.mono ?_
  rintro e u1 ⟨ns, G, D, R, S, rfl, hnd, hown, hb⟩
  have kt := Clone.is_tab K8.out.ph K8.out.cf K8.out.fl SMT.out.small hnd hown
  have CS := GenT.cells_cut (Clone.hd (genTab L) G D R S) kt.ph kt.cf kt.fl
  have ON := (cells_ok kt).one
  generalize hd2 : Clone.hd (genTab L) G D R S = hq at *
  generalize hc2 : (genTab L).cells hq = c2 at *
  have HB1 := Lib.hid hb
  have HO := Lib.hid hown
  clear hcl hb hown kt
  go_upto_region 3 with (refine Row.wpList_store_new rfl 33 _ _ rfl u1 Z.toArray c2.toArray rfl rfl rfl (by rw [List.size_toArray, CS]; exact infoT) (by rw [ZS, List.size_toArray, CS]) ON ?_)
  have hb2 : Below u1.heap.size u1 (u1.alloc (.cells c2.toArray 33)) := (Below.refl _ _).alloc (Nat.le_refl _) _
  have hux : BendU.Ux u u1.heap.size hq (genTab L) (u1.alloc (.cells c2.toArray 33)) := by
    rw [← hd2]
    exact BendU.of_clone K8.out.ph K8.out.cf K8.out.fl SMT.out.small hnd (HO.out.step hb2) (HB1.out.trans (hb2.mono HB1.out.size)) HB1.out.size (by rw [hd2, hc2]; exact heap_alloc_new u1 _)
  have HUX := Lib.hid hux
  clear hux hb2 hz ZS ON CS hnd hc2 hd2 HO HB1
  generalize u1.alloc (.cells c2.toArray 33) = u2 at HUX ⊢
  generalize u1.heap.size = ub at HUX ⊢
  go_wp2_with fail
  refine (Bend.bend_any u ub hq (genTab L) u2 a1 a2 a3 HUX.out SMT.out).mono ?_
  rintro e u3 ⟨rfl, hd3, T3, hux3, sm3⟩
  have HB3 := Lib.hid hux3.bel
  have KT3 := Lib.hid hux3.tab
  have LB3 : Hid (∀ W, Below u3.heap.size u3 W → Lies W ⟨ub, 0, none⟩ (T3.cells hd3)) := Lib.hid (fun W hb => by have := Row.lies_of_block ((hux3.step hb).blk); simpa using this)
  have IB : Hid ((Try.prog.info? 33).map (·.size) = some (T3.cells hd3).length) := Lib.hid (by rw [GenT.cells_cut hd3 hux3.ph hux3.cf hux3.fl]; exact infoT)
  have M1 : Hid (∀ W, Below u.heap.size u W → Calls Try.prog 13 #[.agg c.toArray] W fun e w' => e = .returned (.bool true) ∧ Below W.heap.size W w') := Lib.hid (fun W hb => by
    have := May.may_any (genTab L) hd W (TB.out W hb)
    rw [HC.out, GM.out] at this
    exact this)
  obtain ⟨m, M2, M3⟩ : ∃ m : Bool, Hid (∀ W, Below u3.heap.size u3 W → Calls Try.prog 13 #[.agg (T3.cells hd3).toArray] W fun e w' => e = .returned (.bool m) ∧ Below W.heap.size W w')
      ∧ Hid (∀ W, Below u3.heap.size u3 W → Calls Try.prog 14 #[.agg (T3.cells hd3).toArray] W fun e w' => e = .returned (.bool m) ∧ Below W.heap.size W w') :=
    ⟨May.tabMay T3, Lib.hid (fun W hb => May.may_any T3 hd3 W (KT3.out.below hb)), Lib.hid (fun W hb => May.rmay_any T3 hd3 W (KT3.out.below hb))⟩
  obtain ⟨q, S1, S2⟩ : ∃ q : Bool, Hid (∀ W, Below u3.heap.size u3 W → Calls Try.prog 15 #[.agg c.toArray, .agg (T3.cells hd3).toArray] W fun e w' => e = .returned (.bool q) ∧ Below W.heap.size W w')
      ∧ Hid (∀ W, Below u3.heap.size u3 W → Calls Try.prog 16 #[.agg c.toArray, .agg (T3.cells hd3).toArray] W fun e w' => e = .returned (.bool q) ∧ Below W.heap.size W w') :=
    ⟨decide (genTab L = T3), Lib.hid (fun W hb => by rw [← HC.out]; exact Same.same_any (genTab L) T3 hd hd3 W (TB.out W (HB3.out.trans (hb.mono HB3.out.size))) (KT3.out.below hb)), Lib.hid (fun W hb => by rw [← HC.out]; exact Same.rsame_any (genTab L) T3 hd hd3 W (TB.out W (HB3.out.trans (hb.mono HB3.out.size))) (KT3.out.below hb))⟩
  generalize T3.cells hd3 = c3 at *
  clear hux3 sm3 KT3 HC TB GM K8 SMT HUX
  go_upto_region 4 with fail
  have hne : Nonempty (Ph.S (Row.Old u3)) := ⟨⟨0, u3, Below.refl _ _⟩⟩
  have P0 : Hid (∀ p : Ph.S (Row.Old u3), Below u.heap.size u p.world) := Lib.hid (fun p => HB3.out.trans (p.is.mono HB3.out.size))
  refine Pw.region (Row.Old u3) [] (by kernel_rfl) (by kernel_rfl) (Row.Old.drew _) ?_
  refine Pw.load rfl (by rfl) 33 _ rfl ⟨tb, 0, none⟩ rfl c _ (fun p => A1.out _ (P0.out p)) Try.underlying33 rfl IA.out ?_
  (try dsimp only [Act.put]); (try simp only [List.setIfInBounds_toArray, List.set_cons_zero, List.set_cons_succ])
  (refine Pw.calm rfl (fun K hK => ?_)
   go_simp
   refine ⟨_, fun p => Row.Old.call (M1.out _ (P0.out p)), hK _ ?_⟩
   clear hK K)
  iterate 1
    (refine Pw.calm rfl (fun K hK => ?_)
     go_simp
     refine hK _ ?_
     clear hK K)
  refine Pw.load rfl (by rfl) 33 _ rfl ⟨ub, 0, none⟩ rfl c3 _ (fun p => LB3.out _ p.is) Try.underlying33 rfl IB.out ?_
  (try dsimp only [Act.put]); (try simp only [List.setIfInBounds_toArray, List.set_cons_zero, List.set_cons_succ])
  (refine Pw.calm rfl (fun K hK => ?_)
   go_simp
   refine ⟨_, fun p => Row.Old.call (M2.out _ p.is), hK _ ?_⟩
   clear hK K)
  refine Pw.load rfl (by rfl) 33 _ rfl ⟨ub, 0, none⟩ rfl c3 _ (fun p => LB3.out _ p.is) Try.underlying33 rfl IB.out ?_
  (try dsimp only [Act.put]); (try simp only [List.setIfInBounds_toArray, List.set_cons_zero, List.set_cons_succ])
  (refine Pw.calm rfl (fun K hK => ?_)
   go_simp
   refine ⟨_, fun p => Row.Old.call (M3.out _ p.is), hK _ ?_⟩
   clear hK K)
  iterate 1
    (refine Pw.calm rfl (fun K hK => ?_)
     go_simp
     refine hK _ ?_
     clear hK K)
  (try simp only [beq_self_eq_true])
  iterate 2
    (refine Pw.calm rfl (fun K hK => ?_)
     go_simp
     refine hK _ ?_
     clear hK K)
  refine Pw.load rfl (by rfl) 33 _ rfl ⟨tb, 0, none⟩ rfl c _ (fun p => A1.out _ (P0.out p)) Try.underlying33 rfl IA.out ?_
  (try dsimp only [Act.put]); (try simp only [List.setIfInBounds_toArray, List.set_cons_zero, List.set_cons_succ])
  refine Pw.load rfl (by rfl) 33 _ rfl ⟨ub, 0, none⟩ rfl c3 _ (fun p => LB3.out _ p.is) Try.underlying33 rfl IB.out ?_
  (try dsimp only [Act.put]); (try simp only [List.setIfInBounds_toArray, List.set_cons_zero, List.set_cons_succ])
  (refine Pw.calm rfl (fun K hK => ?_)
   go_simp
   refine ⟨_, fun p => Row.Old.call (S1.out _ p.is), hK _ ?_⟩
   clear hK K)
  refine Pw.load rfl (by rfl) 33 _ rfl ⟨tb, 0, none⟩ rfl c _ (fun p => A1.out _ (P0.out p)) Try.underlying33 rfl IA.out ?_
  (try dsimp only [Act.put]); (try simp only [List.setIfInBounds_toArray, List.set_cons_zero, List.set_cons_succ])
  refine Pw.load rfl (by rfl) 33 _ rfl ⟨ub, 0, none⟩ rfl c3 _ (fun p => LB3.out _ p.is) Try.underlying33 rfl IB.out ?_
  (try dsimp only [Act.put]); (try simp only [List.setIfInBounds_toArray, List.set_cons_zero, List.set_cons_succ])
  (refine Pw.calm rfl (fun K hK => ?_)
   go_simp
   refine ⟨_, fun p => Row.Old.call (S2.out _ p.is), hK _ ?_⟩
   clear hK K)
  iterate 1
    (refine Pw.calm rfl (fun K hK => ?_)
     go_simp
     refine hK _ ?_
     clear hK K)
  (try simp only [beq_self_eq_true])
  iterate 2
    (refine Pw.calm rfl (fun K hK => ?_)
     go_simp
     refine hK _ ?_
     clear hK K)
  (refine Pw.calm rfl (fun K hK => ?_)
   go_simp
   refine ⟨_, fun p => Row.Old.call (Wa.awake_any _), hK _ ?_⟩
   clear hK K)
  iterate 2
    (refine Pw.calm rfl (fun K hK => ?_)
     go_simp
     refine hK _ ?_
     clear hK K)
  refine Pw.nil ?_
  intro u9 hb9
  have E := Lib.hid (A0.out.trans ((HB3.out.trans (hb9.mono HB3.out.size)).mono A0.out.size))
  clear hb9 hne P0
  go_wp2
  go_ret
  exact ⟨rfl, E.out⟩

/-! ### the row's step -/
set_option maxRecDepth 100000 in
theorem lifted (os : Os) (started : os.Started) (H : Type) (enc : TypeId × Value → H) :
    ReturnsInHanded {} Try.checked os 3 .any (Rows.tableBentSpec.pre6 enc Try.prog Try.f3 Rows.tableBentRow.domain false) (Rows.tableBentSpec.post enc Try.prog Try.f3 false true false false) := by
  refine returnsInHanded_of_change (C := Try.checked) own started (by kernel_rfl) Try.func3
    (ChangeSpec.witness6 (enc := enc) (C := Try.checked) false ⟨#[], #[.slice none 0 0, .int .i64 0, .int .i64 0, .float .f64 0], []⟩ 8 (by kernel_rfl) (by kernel_rfl) (by kernel_rfl) (by kernel_rfl)) ?_
  intro W base args ds gs before hval0 hW hcnd _
  have hval : ∀ (j : Nat) t v, Try.f3.params[j]? = some t → args[j]? = some v → Value.okWide Try.prog W .any base t v := hval0
  have hW' := hW
  obtain ⟨p, q, hA0, hV, rfl, hfz, hnd⟩ := hW
  have hA : DataW.TrodAll enc Try.prog W 0 (fun _ => true) true Try.f3.params.toList args.toList ds p := hA0
  rw [Try.params3] at hA hval
  obtain ⟨v0, vs0, d0, ds0, p0, q0, hargs, rfl, rfl, h0, r0⟩ := trodAll_cons hA
  obtain ⟨v1, vs1, d1, ds1, p1, q1, rfl, rfl, rfl, h1, r1⟩ := trodAll_cons r0
  obtain ⟨v2, vs2, d2, ds2, p2, q2, rfl, rfl, rfl, h2, r2⟩ := trodAll_cons r1
  obtain ⟨v3, vs3, d3, ds3, p3, q3, rfl, rfl, rfl, h3, r3⟩ := trodAll_cons r2
  obtain ⟨rfl, rfl, rfl⟩ := trodAll_nil r3
  obtain rfl : args = #[v0, v1, v2, v3] := by cases args; simp_all
  obtain ⟨rfl, rfl⟩ := trodVars_none hV
  obtain ⟨a0, len0, cap0, rfl⟩ := okWide_slice Try.underlying22 (hval 0 22 v0 rfl rfl)
  have k0 := h0
  have lt0 : ∀ x ∈ p0, x.block < W.heap.size := by obtain ⟨m, hm⟩ := k0; exact DataW.trod_lt m _ _ _ hm
  obtain ⟨z0, w0⟩ : ∃ zs, IsRow .i64 W a0 len0 cap0 zs := by
    obtain ⟨fuel, hf⟩ := h0
    rcases open_ints Try.underlying22 Try.underlying3 (by kernel_rfl) hf with ⟨hcs, _⟩ | ⟨x, l, c, zs, hcs, _, hl, hm, hz, _, hcell, hwz⟩
    · simp [Value.cells] at hcs
      obtain ⟨rfl, rfl, rfl⟩ := hcs
      exact ⟨[], .inl ⟨rfl, rfl, rfl, rfl⟩⟩
    · simp [Value.cells] at hcs
      obtain ⟨rfl, rfl, rfl⟩ := hcs
      exact ⟨zs, .inr ⟨_, rfl, hl, hm, by simpa using hz, hcell, hwz⟩⟩
  obtain ⟨a1, rfl, rfl, rfl, w1⟩ := open_int Try.underlying3 (hval 1 3 v1 rfl rfl) h1
  obtain ⟨a2, rfl, rfl, rfl, w2⟩ := open_int Try.underlying3 (hval 2 3 v2 rfl rfl) h2
  obtain ⟨a3, rfl, rfl, rfl, w3⟩ := open_float Try.underlying23 (hval 3 23 v3 rfl rfl) h3
  clear hA0 hval0
  refine (walk a0 len0 cap0 z0 a1 a2 a3 W w0 w1 w2 w3).mono fun e W' ⟨he, bel⟩ => ?_
  subst he
  exact ⟨_, rfl, _, _, _, [], _, [], hW', trodAll_mk1 (shut_bool Try.underlying4 _), (trodAll_cons_mk (Below.trod laidOut (by kernel_rfl) (of_decide_eq_true (by kernel_rfl)) k0 bel lt0) (trodAll_cons_mk (shut_int Try.underlying3 w1) (trodAll_cons_mk (shut_int Try.underlying3 w2) (trodAll_cons_mk (shut_float Try.underlying23 w3) trodAll_mk0)))), rfl, bel.frame _, fun h => by cases h⟩

theorem over : Rows.tableBentRow.holds Try.pinned (OpenSpec.ofChange Rows.tableBentSpec) :=
  OpenClaim.holds_of_wide 3 Try.f3 rfl rfl rfl rfl rfl rfl rfl ⟨rfl, rfl, rfl, rfl, rfl⟩ rfl rfl rfl rfl rfl (by kernel_rfl) Try.func3 (by kernel_rfl)
    (of_decide_eq_true (by kernel_rfl)) (by unfold Func.isWrapper; first | (rw [if_pos (by decide +kernel)]; kernel_rfl) | (rw [if_neg (by decide +kernel)]; exact ⟨rfl, rfl⟩))
    (fun os started H enc _ => lifted os started H enc)

/-- the statement -/
theorem proved : Rows.TableBentSaid :=
  over
#print axioms proved
end Go.Proofs.Ytfnpcfibgabmfaa.tableBent
