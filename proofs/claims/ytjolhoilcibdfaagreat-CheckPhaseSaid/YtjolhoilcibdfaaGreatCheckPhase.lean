/- CheckPhase returns true at any numbers, any phase: package check's Check returns what the document's own returns. No condition. -/
import Derived.Test.YtjolhoilcibdfaaGreatRows
import Derived.Test.YtjolhoilcibdfaaGreatPart08
import Derived.Test.YtjolhoilcibdfaaGreatPart10
import Derived.Test.YtjolhoilcibdfaaGreatPart12
import Derived.Test.YtjolhoilcibdfaaGreatPart14
import Derived.Test.YtjolhoilcibdfaaGreatPart04
import Derived.Deep.Cut
import Derived.LoopTactic
import Derived.WalkKit
import Derived.WalkLawsBesides
import Derived.ProofKit
import Derived.OpenShut
import Derived.ShutString
import Derived.ChangeOld
import Derived.Below
set_option linter.unusedVariables false
set_option linter.unusedSimpArgs false
set_option linter.unusedSectionVars false
namespace Go.Proofs.YtjolhoilcibdfaaGreat.checkPhase
open Go.ChangeShapes Go.WideShapes Go.ChangeAt Go.RowKit
open Tab PlaceM PlanM OnS ChkM GenT GenG
open May (infoT infoP)
set_option linter.unusedVariables false
set_option linter.unusedSimpArgs false

theorem own : ownKnob Tryz.prog.godebug = none := by kernel_rfl
theorem laidOut : laidOutB Tryz.prog = true := by kernel_rfl

/-- WHAT THE WALK IS TOLD OF A SLICE OF INTEGERS THAT CAME IN: it is nil; or it leads to a row of 'cap' cells, the numbers 'zs' (the first 'len' are its elements, the rest its spare room), each fitting its kind. -/
def IsRow (k : IntKind) (w : World) (a : Option Addr) (len cap : Nat) (zs : List Int) : Prop :=
  (a = none ∧ len = 0 ∧ cap = 0 ∧ zs = []) ∨
  ∃ x, a = some x ∧ len ≤ cap ∧ cap ≤ maxLen ∧ zs.length = cap ∧ (∀ i, i < zs.length → w.cell? (x.add i) = some (.int k (zs.getD i 0))) ∧ ∀ n ∈ zs, (Lit.int k n).wf = true

theorem isRow_int {w : World} {a : Option Addr} {len cap : Nat} {zs : List Int} (h : IsRow .i64 w a len cap zs) : (zs.take len).length = len ∧ Tab.IntRow w ⟨a, cap⟩ (zs.take len) := by
  rcases h with ⟨rfl, rfl, rfl, rfl⟩ | ⟨x, rfl, h1, h2, h3, h4, _⟩
  · exact ⟨rfl, .inl ⟨rfl, rfl, rfl⟩⟩
  · have hl : (zs.take len).length = len := by rw [List.length_take]; omega
    refine ⟨hl, .inr ⟨x, rfl, by rw [hl]; exact h1, h2, fun i v hv j u hu => ?_⟩⟩
    have hi : i < len := by have := (List.getElem?_eq_some_iff.1 hv).1; omega
    match j, hu with
    | 0, hu =>
      simp at hu
      subst hu
      rw [List.getElem?_take, if_pos hi] at hv
      have := h4 i (by omega)
      rw [List.getD_eq_getElem?_getD, hv] at this
      rw [Nat.mul_one, Tab.add_two, Nat.add_zero]
      exact this
    | j + 1, hu => simp at hu

/-! ### the walk -/
set_option maxRecDepth 10000 in
set_option maxHeartbeats 8000000 in
theorem walk (a0 : Option Addr) (len0 cap0 : Nat) (z0 : List Int) (a1 : Int) (x2 : Tab.Ph) (a3 : Int) (a4 : Int) (w : World) (w0 : IsRow .i64 w a0 len0 cap0 z0) (w1 : (Lit.int .i64 a1).wf = true) (w3 : (Lit.int .i64 a3).wf = true) (w4 : (Lit.int .i64 a4).wf = true) :
    Calls Tryz.prog 3 #[.slice a0 len0 cap0, .int .i64 a1, .agg x2.cells.toArray, .int .i64 a3, .int .i64 a4] w fun e w' => e = .returned (.bool true) ∧ Below w.heap.size w w' := by
  obtain ⟨hlen, hrow⟩ := isRow_int w0
  obtain ⟨L, hL⟩ : ∃ L, L = z0.take len0 := ⟨_, rfl⟩
  rw [← hL] at hlen hrow
  clear hL w0
  subst hlen
  have hz := (zero_of_info GenT.infoTz).1
  have hZs : (Clone.zTab.cells Clone.zHd).length = 131 := rfl
  generalize hZ : GenT.zTab.cells GenT.zHd = Z at *
  have ZS : Z.toArray.size = 131 := by rw [← hZ]; rfl
  clear hZ hZs
  have G8 := Lib.hid (GenT.genTab_few L)
  have IP : Hid ((Tryz.prog.info? 24).map (·.size) = some x2.cells.length) := Lib.hid infoP
  go_enter Tryz.func3, Tryz.ntmps3
  go_upto_region 1 with fail
  have A0 : Hid (Below w.heap.size w (w.alloc (.cells x2.cells.toArray 24))) := Lib.hid ((Below.refl _ _).alloc (Nat.le_refl _) _)
  have X0 : Hid (Lies (w.alloc (.cells x2.cells.toArray 24)) ⟨w.heap.size, 0, none⟩ x2.cells) := Lib.hid (Row.lies_new w _ _)
  generalize w.alloc (.cells x2.cells.toArray 24) = v1 at A0 X0 ⊢
  replace hrow := hrow.below A0.out
  go_wp2_with fail
  refine (GenT.table_any a0 cap0 L v1 hrow).mono ?_
  rintro e u0 ⟨hd, rfl, ht, hb⟩
  have CS := GenT.cells_cut hd ht.ph ht.cf ht.fl
  have ON := (cells_ok ht).one
  have HT0 := Lib.hid ht
  have B0 : Hid (Below w.heap.size w u0) := Lib.hid (A0.out.trans (hb.mono A0.out.size))
  have X1 := Lib.hid (X0.out.below hb)
  clear X0
  have IA : Hid ((Tryz.prog.info? 32).map (·.size) = some ((genTab L).cells hd).length) := Lib.hid (by rw [CS]; exact infoT)
  clear hb ht
  generalize hc : (genTab L).cells hd = c at *
  have HC := Lib.hid hc
  clear hc
  go_upto_region 2 with (refine Row.wpList_store_new rfl 32 _ _ rfl u0 Z.toArray c.toArray rfl rfl rfl (by rw [List.size_toArray]; exact IA.out) (by rw [ZS, List.size_toArray, CS]) ON ?_)
  have hb2 : Hid (Below u0.heap.size u0 (u0.alloc (.cells c.toArray 32))) := Lib.hid ((Below.refl _ _).alloc (Nat.le_refl _) _)
  have KX : Hid (Kx.Kx u0 u0.heap.size hd (genTab L) (u0.alloc (.cells c.toArray 32))) := Lib.hid ⟨hb2.out, Nat.le_refl _, by rw [HC.out]; exact heap_alloc_new u0 _, HT0.out⟩
  generalize u0.alloc (.cells c.toArray 32) = u at hb2 KX ⊢
  have X2 := Lib.hid (X1.out.below hb2.out)
  clear hb2 X1 HC HT0 hrow hz ZS ON CS A0 IA
  generalize u0.heap.size = tb at KX ⊢
  go_wp2_with fail
  refine (RefS.place_any a1 8 _ (by decide) (by decide)).mono ?_
  rintro e w' ⟨rfl, rfl⟩
  obtain ⟨k, ek, k8⟩ : ∃ k : Nat, a1 % 8 = (k : Int) ∧ k < 8 := ⟨(a1 % 8).toNat, by omega, by omega⟩
  rw [ek]
  clear ek w1
  obtain ⟨w3, hst, k3⟩ := KX.out.store_ph k k8 x2
  have K3 := Lib.hid k3
  clear k3 KX
  go_upto_region 4 with (refine Row.wpList_load_g 24 _ rfl (by first | rfl | go_simp) ⟨w.heap.size, 0, none⟩ rfl x2.cells _ X2.out Tryz.underlying24 rfl IP.out ?_)
  clear hst X2
  have c5 := K3.out.at_cf k k8
  have f5 := K3.out.frozen (105 + k)
  have hold : ∃ old, old = ({ genTab L with phases := (genTab L).phases.set k x2 } : Tab).conflict.getD k 0 := ⟨_, rfl⟩
  obtain ⟨old, ho⟩ := hold
  rw [← ho] at c5
  clear ho
  have K4 := Lib.hid (K3.out.set (105 + k) (I (bits .xor .i64 old (bits .and .i64 a3 255))) (cells_conflict hd K3.out.tab.ph K3.out.tab.cf k k8 _) K3.out.tab.ph (by simp [K3.out.tab.cf]) K3.out.tab.fl rfl rfl rfl rfl)
  clear K3
  go_upto_region 5 with fail
  generalize w3.setCell ⟨tb, 105 + k, none⟩ (I (bits .xor .i64 old (bits .and .i64 a3 255))) = w4 at K4 ⊢
  clear c5 f5
  generalize bits .xor .i64 old (bits .and .i64 a3 255) = cv at K4
  obtain ⟨fold, c7⟩ : ∃ z, w4.cell? ⟨tb, 121 + k, none⟩ = some (I z) := ⟨_, K4.out.at_fl k k8⟩
  have f7 := K4.out.frozen (121 + k)
  have K5 := Lib.hid (K4.out.set (121 + k) (I (a4 % 3)) (cells_flash hd K4.out.tab.ph K4.out.tab.cf K4.out.tab.fl k k8 _) K4.out.tab.ph K4.out.tab.cf (by simp [K4.out.tab.fl]) rfl rfl rfl rfl)
  clear K4
  go_wp2_with fail
  refine (RefS.place_any a4 3 _ (by decide) (by decide)).mono ?_
  rintro e w' ⟨rfl, rfl⟩
  go_upto_region 6 with fail
  generalize w4.setCell ⟨tb, 121 + k, none⟩ (I (a4 % 3)) = w5 at K5 ⊢
  clear c7 f7
  obtain ⟨T, hT⟩ : ∃ T : Tab, T = { { { genTab L with phases := (genTab L).phases.set k x2 } with conflict := ({ genTab L with phases := (genTab L).phases.set k x2 } : Tab).conflict.set k cv } with flash := ({ { genTab L with phases := (genTab L).phases.set k x2 } with conflict := ({ genTab L with phases := (genTab L).phases.set k x2 } : Tab).conflict.set k cv } : Tab).flash.set k (a4 % 3) } := ⟨_, rfl⟩
  have SM : Hid (PlaceM.Few T) := Lib.hid (by rw [hT]; exact ⟨G8.out.groups, G8.out.rows⟩)
  have KT : Hid (Kx.Kx u0 tb hd T w5) := Lib.hid (by rw [hT]; exact K5.out)
  clear hT K5
  have E0 : Hid (Below w.heap.size w w5) := Lib.hid (B0.out.trans (KT.out.bel.mono B0.out.size))
  have CK0 : Hid (∀ W, Below w5.heap.size w5 W → Calls Tryz.prog 14 #[.agg (Tab.cells T hd).toArray] W fun e w' => e = .returned (.agg (fcells (chkC T))) ∧ Below W.heap.size W w') := Lib.hid (fun W hb => ChkK.check_any _ hd W (KT.out.isTab.below hb))
  have RK0 : Hid (∀ W, Below w5.heap.size w5 W → Calls Tryz.prog 15 #[.agg (Tab.cells T hd).toArray] W fun e w' => e = .returned (.agg (fcells (chkC T))) ∧ Below W.heap.size W w') := Lib.hid (fun W hb => by rw [ChkZ.chk_eq KT.out.tab.ph KT.out.tab.cf]; exact RkK.rcheck_any _ hd W (KT.out.isTab.below hb) SM.out)
  have LN : Hid (∀ W, Below w5.heap.size w5 W → Lies W ⟨tb, 0, none⟩ (Tab.cells T hd)) := Lib.hid (fun W hb => KT.out.lies.below hb)
  have IN : Hid ((Tryz.prog.info? 32).map (·.size) = some (Tab.cells T hd).length) := Lib.hid (by rw [GenT.cells_cut hd KT.out.tab.ph KT.out.tab.cf KT.out.tab.fl]; exact infoT)
  obtain ⟨f1, f2, FE, CK, RK⟩ : ∃ (f1 f2 : Int), Hid (Same.Eqs 37 [I f1, I f2] [I f1, I f2] true) ∧ Hid (∀ W, Below w5.heap.size w5 W → Calls Tryz.prog 14 #[.agg (Tab.cells T hd).toArray] W fun e w' => e = .returned (.agg #[I f1, I f2]) ∧ Below W.heap.size W w')
      ∧ Hid (∀ W, Below w5.heap.size w5 W → Calls Tryz.prog 15 #[.agg (Tab.cells T hd).toArray] W fun e w' => e = .returned (.agg #[I f1, I f2]) ∧ Below W.heap.size W w') :=
    ⟨(chkC T).1, (chkC T).2, Lib.hid (by have := ChkK.fault_eqs (chkC T).1 (chkC T).2 (chkC T).1 (chkC T).2; rwa [decide_eq_true (by simp)] at this), CK0, RK0⟩
  clear CK0 RK0 KT
  generalize Tab.cells T hd = cc at *
  have hne : Nonempty (Ph.S (Row.Old w5)) := ⟨⟨0, w5, Below.refl _ _⟩⟩
  have P0 : Hid (∀ p : Ph.S (Row.Old w5), Below w5.heap.size w5 p.world) := Lib.hid (fun p => p.is)
  refine Pw.region (Row.Old w5) [] (by kernel_rfl) (by kernel_rfl) (Row.Old.drew _) ?_
  refine Pw.load rfl (by rfl) 32 _ rfl ⟨tb, 0, none⟩ rfl cc _ (fun p => LN.out _ p.is) Tryz.underlying32 rfl IN.out ?_
  (try dsimp only [Act.put]); (try simp only [List.setIfInBounds_toArray, List.set_cons_zero, List.set_cons_succ])
  (refine Pw.calm rfl (fun K hK => ?_)
   go_simp
   refine ⟨_, fun p => Row.Old.call (CK.out _ (P0.out p)), hK _ ?_⟩
   clear hK K)
  refine Pw.load rfl (by rfl) 32 _ rfl ⟨tb, 0, none⟩ rfl cc _ (fun p => LN.out _ p.is) Tryz.underlying32 rfl IN.out ?_
  (try dsimp only [Act.put]); (try simp only [List.setIfInBounds_toArray, List.set_cons_zero, List.set_cons_succ])
  (refine Pw.calm rfl (fun K hK => ?_)
   go_simp
   refine ⟨_, fun p => Row.Old.call (RK.out _ (P0.out p)), hK _ ?_⟩
   clear hK K)
  refine Pw.eql 37 _ _ _ rfl rfl (by rfl) #[I f1, I f2] #[I f1, I f2] rfl rfl ChkK.guardF true FE.out ?_
  (try dsimp only [Act.put]); (try simp only [List.setIfInBounds_toArray, List.set_cons_zero, List.set_cons_succ])
  iterate 1
    (refine Pw.calm rfl (fun K hK => ?_)
     go_simp
     refine hK _ ?_
     clear hK K)
  (refine Pw.calm rfl (fun K hK => ?_)
   go_simp
   refine ⟨_, fun p => Row.Old.call (Wa9.awake_any _), hK _ ?_⟩
   clear hK K)
  iterate 2
    (refine Pw.calm rfl (fun K hK => ?_)
     go_simp
     refine hK _ ?_
     clear hK K)
  refine Pw.nil ?_
  intro u9 hb9
  have E := Lib.hid (E0.out.trans (hb9.mono E0.out.size))
  clear hb9 hne P0
  go_wp2
  go_ret
  exact ⟨rfl, E.out⟩

/-! ### the row's step -/
set_option maxRecDepth 100000 in
theorem lifted (os : Os) (started : os.Started) (H : Type) (enc : TypeId × Value → H) :
    ReturnsInHanded {} Tryz.checked os 3 .any (Rows.checkPhaseSpec.pre6 enc Tryz.prog Tryz.f3 Rows.checkPhaseRow.domain false) (Rows.checkPhaseSpec.post enc Tryz.prog Tryz.f3 false true false false) := by
  refine returnsInHanded_of_change (C := Tryz.checked) own started (by kernel_rfl) Tryz.func3
    (ChangeSpec.witness6 (enc := enc) (C := Tryz.checked) false ⟨#[], #[.slice none 0 0, .int .i64 0, .agg Clone.zPh.cells.toArray, .int .i64 0, .int .i64 0], []⟩ 8 (by kernel_rfl) (by kernel_rfl) (by kernel_rfl) (by kernel_rfl)) ?_
  intro W base args ds gs before hval0 hW hcnd _
  have hval : ∀ (j : Nat) t v, Tryz.f3.params[j]? = some t → args[j]? = some v → Value.okWide Tryz.prog W .any base t v := hval0
  have hW' := hW
  obtain ⟨p, q, hA0, hV, rfl, hfz, hnd⟩ := hW
  have hA : DataW.TrodAll enc Tryz.prog W 0 (fun _ => true) true Tryz.f3.params.toList args.toList ds p := hA0
  rw [Tryz.params3] at hA hval
  obtain ⟨v0, vs0, d0, ds0, p0, q0, hargs, rfl, rfl, h0, r0⟩ := trodAll_cons hA
  obtain ⟨v1, vs1, d1, ds1, p1, q1, rfl, rfl, rfl, h1, r1⟩ := trodAll_cons r0
  obtain ⟨v2, vs2, d2, ds2, p2, q2, rfl, rfl, rfl, h2, r2⟩ := trodAll_cons r1
  obtain ⟨v3, vs3, d3, ds3, p3, q3, rfl, rfl, rfl, h3, r3⟩ := trodAll_cons r2
  obtain ⟨v4, vs4, d4, ds4, p4, q4, rfl, rfl, rfl, h4, r4⟩ := trodAll_cons r3
  obtain ⟨rfl, rfl, rfl⟩ := trodAll_nil r4
  obtain rfl : args = #[v0, v1, v2, v3, v4] := by cases args; simp_all
  obtain ⟨rfl, rfl⟩ := trodVars_none hV
  obtain ⟨a0, len0, cap0, rfl⟩ := okWide_slice Tryz.underlying22 (hval 0 22 v0 rfl rfl)
  have k0 := h0
  have lt0 : ∀ x ∈ p0, x.block < W.heap.size := by obtain ⟨m, hm⟩ := k0; exact DataW.trod_lt m _ _ _ hm
  obtain ⟨z0, w0⟩ : ∃ zs, IsRow .i64 W a0 len0 cap0 zs := by
    obtain ⟨fuel, hf⟩ := h0
    rcases open_ints Tryz.underlying22 Tryz.underlying3 (by kernel_rfl) hf with ⟨hcs, _⟩ | ⟨x, l, c, zs, hcs, _, hl, hm, hz, _, hcell, hwz⟩
    · simp [Value.cells] at hcs
      obtain ⟨rfl, rfl, rfl⟩ := hcs
      exact ⟨[], .inl ⟨rfl, rfl, rfl, rfl⟩⟩
    · simp [Value.cells] at hcs
      obtain ⟨rfl, rfl, rfl⟩ := hcs
      exact ⟨zs, .inr ⟨_, rfl, hl, hm, by simpa using hz, hcell, hwz⟩⟩
  obtain ⟨a1, rfl, rfl, rfl, w1⟩ := open_int Tryz.underlying3 (hval 1 3 v1 rfl rfl) h1
  obtain ⟨c2, rfl, _⟩ := okWide_struct Tryz.underlying24 (hval 2 24 v2 rfl rfl)
  have k2 := h2
  have lt2 : ∀ x ∈ p2, x.block < W.heap.size := by obtain ⟨m, hm⟩ := k2; exact DataW.trod_lt m _ _ _ hm
  obtain ⟨x2, e2⟩ : ∃ x : Tab.Ph, c2 = x.cells.toArray := by
    obtain ⟨fuel, hf⟩ := h2
    obtain ⟨x, e⟩ := TabArg.ph_el (Flat.trod_flat 4 _ _ TabArg.flP fuel _ _ hf)
    exact ⟨x, by rw [← e]; simp [Value.cells]⟩
  subst e2
  obtain ⟨a3, rfl, rfl, rfl, w3⟩ := open_int Tryz.underlying3 (hval 3 3 v3 rfl rfl) h3
  obtain ⟨a4, rfl, rfl, rfl, w4⟩ := open_int Tryz.underlying3 (hval 4 3 v4 rfl rfl) h4
  clear hA0 hval0
  refine (walk a0 len0 cap0 z0 a1 x2 a3 a4 W w0 w1 w3 w4).mono fun e W' ⟨he, bel⟩ => ?_
  subst he
  exact ⟨_, rfl, _, _, _, [], _, [], hW', trodAll_mk1 (shut_bool Tryz.underlying4 _), (trodAll_cons_mk (Below.trod laidOut (by kernel_rfl) (of_decide_eq_true (by kernel_rfl)) k0 bel lt0) (trodAll_cons_mk (shut_int Tryz.underlying3 w1) (trodAll_cons_mk (Below.trod laidOut (by kernel_rfl) (of_decide_eq_true (by kernel_rfl)) k2 bel lt2) (trodAll_cons_mk (shut_int Tryz.underlying3 w3) (trodAll_cons_mk (shut_int Tryz.underlying3 w4) trodAll_mk0))))), rfl, bel.frame _, fun h => by cases h⟩

theorem over : Rows.checkPhaseRow.holds Tryz.pinned (OpenSpec.ofChange Rows.checkPhaseSpec) :=
  OpenClaim.holds_of_wide 3 Tryz.f3 rfl rfl rfl rfl rfl rfl rfl ⟨rfl, rfl, rfl, rfl, rfl⟩ rfl rfl rfl rfl rfl (by kernel_rfl) Tryz.func3 (by kernel_rfl)
    (of_decide_eq_true (by kernel_rfl)) (by unfold Func.isWrapper; first | (rw [if_pos (by decide +kernel)]; kernel_rfl) | (rw [if_neg (by decide +kernel)]; exact ⟨rfl, rfl⟩))
    (fun os started H enc _ => lifted os started H enc)

/-- the statement -/
theorem proved : Rows.CheckPhaseSaid :=
  over
#print axioms proved
end Go.Proofs.YtjolhoilcibdfaaGreat.checkPhase
