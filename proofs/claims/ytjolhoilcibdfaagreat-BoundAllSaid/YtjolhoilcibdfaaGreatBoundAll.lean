/- BoundAll returns true at any table: package bound's All returns what the document's own returns. No condition. -/
import Derived.Test.YtjolhoilcibdfaaGreatRows
import Derived.Test.YtjolhoilcibdfaaGreatPart10
import Derived.Test.YtjolhoilcibdfaaGreatPart12
import Derived.Test.YtjolhoilcibdfaaGreatPart06
import Derived.Test.YtjolhoilcibdfaaGreatPart05
import Derived.Deep.Cut
import Derived.WalkKit
import Derived.WalkLawsBesides
import Derived.ProofKit
import Derived.OpenShut
import Derived.ShutString
import Derived.ChangeOld
import Derived.Below
set_option linter.unusedVariables false
set_option linter.unusedSimpArgs false
set_option linter.unusedSectionVars false
namespace Go.Proofs.YtjolhoilcibdfaaGreat.boundAll
open Go.ChangeShapes Go.WideShapes Go.ChangeAt Go.RowKit
open Tab PlaceM PlanM OnS ChkM
open May (infoT)
set_option linter.unusedVariables false
set_option linter.unusedSimpArgs false

theorem own : ownKnob Tryz.prog.godebug = none := by kernel_rfl
theorem laidOut : laidOutB Tryz.prog = true := by kernel_rfl

/-- WHAT THE WALK IS TOLD OF A SLICE OF INTEGERS THAT CAME IN: it is nil; or it leads to a row of 'cap' cells, the numbers 'zs' (the first 'len' are its elements, the rest its spare room), each fitting its kind. -/
def IsRow (k : IntKind) (w : World) (a : Option Addr) (len cap : Nat) (zs : List Int) : Prop :=
  (a = none ∧ len = 0 ∧ cap = 0 ∧ zs = []) ∨
  ∃ x, a = some x ∧ len ≤ cap ∧ cap ≤ maxLen ∧ zs.length = cap ∧ (∀ i, i < zs.length → w.cell? (x.add i) = some (.int k (zs.getD i 0))) ∧ ∀ n ∈ zs, (Lit.int k n).wf = true

theorem few {T : Tab} (h : Light10.IsLight T) : PlaceM.Few T := by
  obtain ⟨h1, _, _, _, h5⟩ := h
  exact ⟨by omega, fun g hg => by have := h5 g hg; omega⟩
theorem rails8 {T : Tab} (h : Light10.IsLight T) : T.rails.length ≤ 8 := h.2.2.1
theorem flatB : Flat.flat Tryz.prog 4 65 = some (List.replicate 12 3) := by kernel_rfl
theorem guardB : Tryz.prog.eqGuardType Tryz.prog.depth 65 = false := by kernel_rfl
theorem bounds_eqs (L M : List Int) (h : L.length = 12) (k : M.length = 12) : Same.Eqs 65 (L.map I) (M.map I) (decide (L = M)) := by
  match L, h with
  | [a0, a1, a2, a3, a4, a5, a6, a7, a8, a9, a10, a11], _ =>
    match M, k with
    | [b0, b1, b2, b3, b4, b5, b6, b7, b8, b9, b10, b11], _ =>
      refine Same.eqs_of flatB (by decide) (by kernel_rfl) [(I a0, I b0), (I a1, I b1), (I a2, I b2), (I a3, I b3), (I a4, I b4), (I a5, I b5), (I a6, I b6), (I a7, I b7), (I a8, I b8), (I a9, I b9), (I a10, I b10), (I a11, I b11)] ⟨Same.lint _ _, Same.lint _ _, Same.lint _ _, Same.lint _ _, Same.lint _ _, Same.lint _ _, Same.lint _ _, Same.lint _ _, Same.lint _ _, Same.lint _ _, Same.lint _ _, Same.lint _ _, trivial⟩ rfl rfl ?_
      simp
theorem allB_len (T : Tab) : (BdB.allB T).length = 12 := by
  unfold BdB.allB
  split
  · rw [List.length_append, BdB.waits_len, BdB.ents_len]
  · simp

/-! ### the walk -/
set_option maxRecDepth 10000 in
set_option maxHeartbeats 8000000 in
theorem walk (T0 : Tab.Tab) (H0 : Tab.Hd) (w : World) (w0 : Tab.IsTab w H0 T0) :
    Calls Tryz.prog 8 #[.agg (T0.cells H0).toArray] w fun e w' => e = .returned (.bool true) ∧ Below w.heap.size w w' := by
  have hz1 := (cells_ok w0).size
  have IA : Hid ((Tryz.prog.info? 32).map (·.size) = some (T0.cells H0).length) := Lib.hid (by rw [List.size_toArray] at hz1; rw [hz1]; exact infoT)
  have L1 : Hid (∀ W, Below w.heap.size w W → Calls Tryz.prog 23 #[.agg (T0.cells H0).toArray] W fun e w' => e = .returned (.bool (decide (Light10.IsLight T0))) ∧ Below W.heap.size W w') := Lib.hid (fun W hb => Light10.light_any T0 H0 W (w0.below hb))
  obtain ⟨b, f1, f2, BZs, HO, BE, FE, PA, RA⟩ : ∃ (b : List Value) (f1 f2 : Int), Hid (b.toArray.size = 12) ∧ Hid (b.toArray.all (·.oneCell') = true) ∧ Hid (Same.Eqs 65 b b true) ∧ Hid (Same.Eqs 37 [I f1, I f2] [I f1, I f2] true) ∧ Hid (PlaceM.Few T0 → ∀ W, Below w.heap.size w W → Calls Tryz.prog 37 #[.agg (T0.cells H0).toArray] W fun e w' => e = .returned (.tuple #[.agg b.toArray, .agg #[I f1, I f2]]) ∧ Below W.heap.size W w')
      ∧ Hid (PlaceM.Few T0 → ∀ W, Below w.heap.size w W → Calls Tryz.prog 38 #[.agg (T0.cells H0).toArray] W fun e w' => e = .returned (.tuple #[.agg b.toArray, .agg #[I f1, I f2]]) ∧ Below W.heap.size W w') :=
    ⟨(BdB.allB T0).map I, (BdB.allF T0).1, (BdB.allF T0).2, Lib.hid (by rw [List.size_toArray, List.length_map, allB_len]), Lib.hid (by simp [Value.oneCell']), Lib.hid (by have := bounds_eqs (BdB.allB T0) (BdB.allB T0) (allB_len T0) (allB_len T0); rwa [decide_eq_true rfl] at this), Lib.hid (by have := ChkK.fault_eqs (BdB.allF T0).1 (BdB.allF T0).2 (BdB.allF T0).1 (BdB.allF T0).2; rwa [decide_eq_true (by simp)] at this), Lib.hid (fun sm W hb => BdL.pall_any T0 H0 W (w0.below hb) sm), Lib.hid (fun sm W hb => BdR.rall_any T0 H0 W (w0.below hb) sm)⟩
  have hzb := (zero_of_info BdN.infoBz).1
  have ZBs : Hid ((BdB.bcells (BdB.zeros 8) (BdB.zeros 4)).size = 12) := Lib.hid rfl
  generalize BdB.bcells (BdB.zeros 8) (BdB.zeros 4) = zb at hzb ZBs
  have A0 : Hid (Below w.heap.size w (w.alloc (.cells (T0.cells H0).toArray 32))) := Lib.hid ((Below.refl _ _).alloc (Nat.le_refl _) _)
  have A1 : Hid (Lies (w.alloc (.cells (T0.cells H0).toArray 32)) ⟨w.heap.size, 0, none⟩ (T0.cells H0)) := Lib.hid (Row.lies_new w _ _)
  clear w0
  generalize T0.cells H0 = c at *
  go_enter Tryz.func8, Tryz.ntmps8
  go_upto_region 1 with fail
  generalize w.alloc (.cells c.toArray 32) = u at A0 A1 ⊢
  clear hz1
  go_wp2_with (refine Row.wpList_load_g 32 _ rfl (by first | rfl | go_simp) ⟨w.heap.size, 0, none⟩ rfl c _ A1.out Tryz.underlying32 rfl IA.out ?_)
  refine (L1.out _ A0.out).mono ?_
  rintro e u1 ⟨rfl, hb⟩
  have B0 : Hid (Below w.heap.size w u1) := Lib.hid (A0.out.trans (hb.mono A0.out.size))
  have B1 := Lib.hid (A1.out.below hb)
  clear hb A0 A1
  by_cases hl : Light10.IsLight T0
  rotate_left
  · rw [decide_eq_false hl]
    clear hl
    go_wp2_with fail
    refine (Wa10.awake_any _).mono ?_
    rintro e u2 ⟨rfl, hb⟩
    have E := Lib.hid (B0.out.trans (hb.mono B0.out.size))
    clear hb
    go_wp2
    go_ret
    exact ⟨rfl, E.out⟩
  rw [decide_eq_true hl]
  have SM := Lib.hid (few hl)
  have SR := Lib.hid (And.intro (few hl) (rails8 hl))
  clear hl L1
  go_wp2_with (refine Row.wpList_load_g 32 _ rfl (by first | rfl | go_simp) ⟨w.heap.size, 0, none⟩ rfl c _ B1.out Tryz.underlying32 rfl IA.out ?_)
  refine (PA.out SM.out _ B0.out).mono ?_
  rintro e u2 ⟨rfl, hb⟩
  have C0 := Lib.hid (B0.out.trans (hb.mono B0.out.size))
  have C1 := Lib.hid (B1.out.below hb)
  clear hb B0 B1 PA
  have KB := Lib.hid (heap_alloc2_old u2 (.cells zb 65) (.cells #[I 0, I 0] 37))
  have KF := Lib.hid ((setRow_other ((u2.alloc (.cells zb 65)).alloc (.cells #[I 0, I 0] 37)) u2.heap.size (u2.heap.size + 1) b.toArray (by omega)).trans (heap_alloc2_new u2 (.cells zb 65) (.cells #[I 0, I 0] 37)))
  have pD : Hid (Below u2.heap.size u2 ((((u2.alloc (.cells zb 65)).alloc (.cells #[I 0, I 0] 37)).setRow u2.heap.size b.toArray).setRow (u2.heap.size + 1) #[I f1, I f2])) := Lib.hid (Same.below_setRow (Same.below_setRow (((Below.refl _ _).alloc (Nat.le_refl _) _).alloc (by simp) _) (Nat.le_refl _) _) (by omega) _)
  have pKF := Lib.hid (setRow_heap _ (u2.heap.size + 1) _ #[I f1, I f2] _ _ KF.out)
  have pKB := Lib.hid ((setRow_other (((u2.alloc (.cells zb 65)).alloc (.cells #[I 0, I 0] 37)).setRow u2.heap.size b.toArray) (u2.heap.size + 1) u2.heap.size #[I f1, I f2] (by omega)).trans (setRow_heap _ u2.heap.size _ b.toArray _ _ KB.out))
  go_upto_region 4 with (first | (refine wpList_store_row rfl 65 _ _ rfl u2.heap.size b.toArray rfl rfl 65 _ KB.out (by rw [BZs.out]; exact BdB.infoB) (by rw [ZBs.out, BZs.out]) HO.out ?_) | (refine wpList_store_row rfl 37 _ _ rfl (u2.heap.size + 1) #[I f1, I f2] rfl rfl 37 _ KF.out BdB.infoF rfl (by simp [Value.oneCell']) ?_))
  generalize (((u2.alloc (.cells zb 65)).alloc (.cells #[I 0, I 0] 37)).setRow u2.heap.size b.toArray).setRow (u2.heap.size + 1) #[I f1, I f2] = pu at pD pKB pKF ⊢
  have pB := Lib.hid (C0.out.trans (pD.out.mono C0.out.size))
  clear KB KF
  have C2 := Lib.hid (C1.out.below pD.out)
  go_wp2_with (refine Row.wpList_load_g 32 _ rfl (by first | rfl | go_simp) ⟨w.heap.size, 0, none⟩ rfl c _ C2.out Tryz.underlying32 rfl IA.out ?_)
  refine (RA.out SM.out _ pB.out).mono ?_
  rintro e u3 ⟨rfl, hb⟩
  have D0 := Lib.hid (pB.out.trans (hb.mono pB.out.size))
  have KB1 := Lib.hid ((hb.block _ (Array.getElem?_eq_some_iff.1 pKB.out).1).trans pKB.out)
  have KF1 := Lib.hid ((hb.block _ (Array.getElem?_eq_some_iff.1 pKF.out).1).trans pKF.out)
  clear hb C0 C1 C2 RA pB pKB pKF pD
  have KB := Lib.hid (heap_alloc2_old u3 (.cells zb 65) (.cells #[I 0, I 0] 37))
  have KF := Lib.hid ((setRow_other ((u3.alloc (.cells zb 65)).alloc (.cells #[I 0, I 0] 37)) u3.heap.size (u3.heap.size + 1) b.toArray (by omega)).trans (heap_alloc2_new u3 (.cells zb 65) (.cells #[I 0, I 0] 37)))
  have qD : Hid (Below u3.heap.size u3 ((((u3.alloc (.cells zb 65)).alloc (.cells #[I 0, I 0] 37)).setRow u3.heap.size b.toArray).setRow (u3.heap.size + 1) #[I f1, I f2])) := Lib.hid (Same.below_setRow (Same.below_setRow (((Below.refl _ _).alloc (Nat.le_refl _) _).alloc (by simp) _) (Nat.le_refl _) _) (by omega) _)
  have qKF := Lib.hid (setRow_heap _ (u3.heap.size + 1) _ #[I f1, I f2] _ _ KF.out)
  have qKB := Lib.hid ((setRow_other (((u3.alloc (.cells zb 65)).alloc (.cells #[I 0, I 0] 37)).setRow u3.heap.size b.toArray) (u3.heap.size + 1) u3.heap.size #[I f1, I f2] (by omega)).trans (setRow_heap _ u3.heap.size _ b.toArray _ _ KB.out))
  go_upto_region 5 with (first | (refine wpList_store_row rfl 65 _ _ rfl u3.heap.size b.toArray rfl rfl 65 _ KB.out (by rw [BZs.out]; exact BdB.infoB) (by rw [ZBs.out, BZs.out]) HO.out ?_) | (refine wpList_store_row rfl 37 _ _ rfl (u3.heap.size + 1) #[I f1, I f2] rfl rfl 37 _ KF.out BdB.infoF rfl (by simp [Value.oneCell']) ?_))
  generalize (((u3.alloc (.cells zb 65)).alloc (.cells #[I 0, I 0] 37)).setRow u3.heap.size b.toArray).setRow (u3.heap.size + 1) #[I f1, I f2] = qu at qD qKB qKF ⊢
  have qB := Lib.hid (D0.out.trans (qD.out.mono D0.out.size))
  clear KB KF
  have L1 : Hid (Lies qu ⟨u2.heap.size, 0, none⟩ b) := Lib.hid (by have := Row.lies_of_block ((qD.out.block _ (Array.getElem?_eq_some_iff.1 KB1.out).1).trans KB1.out); simpa using this)
  have L2 : Hid (Lies qu ⟨(u2.heap.size + 1), 0, none⟩ [I f1, I f2]) := Lib.hid (by have := Row.lies_of_block ((qD.out.block _ (Array.getElem?_eq_some_iff.1 KF1.out).1).trans KF1.out); simpa using this)
  have L3 : Hid (Lies qu ⟨u3.heap.size, 0, none⟩ b) := Lib.hid (by have := Row.lies_of_block qKB.out; simpa using this)
  have L4 : Hid (Lies qu ⟨(u3.heap.size + 1), 0, none⟩ [I f1, I f2]) := Lib.hid (by have := Row.lies_of_block qKF.out; simpa using this)
  have IB : Hid ((Tryz.prog.info? 65).map (·.size) = some b.length) := Lib.hid (by have := BZs.out; rw [List.size_toArray] at this; rw [this]; exact BdB.infoB)
  clear KB1 KF1 qKB qKF D0 qD hzb
  generalize u2.heap.size = s2 at *
  generalize u3.heap.size = s3 at *
  go_wp2_with (first | (refine Row.wpList_load_g 65 _ rfl (by first | rfl | go_simp) ⟨s2, 0, none⟩ rfl b _ L1.out Tryz.underlying65 rfl IB.out ?_) | (refine Row.wpList_load_g 65 _ rfl (by first | rfl | go_simp) ⟨s3, 0, none⟩ rfl b _ L3.out Tryz.underlying65 rfl IB.out ?_) | (refine Row.wpList_load_g 37 _ rfl (by first | rfl | go_simp) ⟨s2 + 1, 0, none⟩ rfl [I f1, I f2] _ L2.out Tryz.underlying37 rfl BdB.infoF ?_) | (refine Row.wpList_load_g 37 _ rfl (by first | rfl | go_simp) ⟨s3 + 1, 0, none⟩ rfl [I f1, I f2] _ L4.out Tryz.underlying37 rfl BdB.infoF ?_) | (refine Row.wpList_eql 65 _ _ _ rfl (by rfl) b.toArray b.toArray rfl rfl guardB true BE.out ?_) | (refine Row.wpList_eql 37 _ _ _ rfl (by rfl) #[I f1, I f2] #[I f1, I f2] rfl rfl ChkK.guardF true FE.out ?_))
  refine (Wa10.awake_any _).mono ?_
  rintro e u9 ⟨rfl, hb⟩
  have E := Lib.hid (qB.out.trans (hb.mono qB.out.size))
  clear hb
  go_wp2
  go_ret
  exact ⟨rfl, E.out⟩

/-! ### the row's step -/
set_option maxRecDepth 100000 in
theorem lifted (os : Os) (started : os.Started) (H : Type) (enc : TypeId × Value → H) :
    ReturnsInHanded {} Tryz.checked os 8 .any (Rows.boundAllSpec.pre6 enc Tryz.prog Tryz.f8 Rows.boundAllRow.domain false) (Rows.boundAllSpec.post enc Tryz.prog Tryz.f8 false true false false) := by
  refine returnsInHanded_of_change (C := Tryz.checked) own started (by kernel_rfl) Tryz.func8
    (ChangeSpec.witness6 (enc := enc) (C := Tryz.checked) false ⟨#[], #[.agg (Clone.zTab.cells Clone.zHd).toArray], []⟩ 8 (by kernel_rfl) (by kernel_rfl) (by kernel_rfl) (by kernel_rfl)) ?_
  intro W base args ds gs before hval0 hW hcnd _
  have hval : ∀ (j : Nat) t v, Tryz.f8.params[j]? = some t → args[j]? = some v → Value.okWide Tryz.prog W .any base t v := hval0
  have hW' := hW
  obtain ⟨p, q, hA0, hV, rfl, hfz, hnd⟩ := hW
  have hA : DataW.TrodAll enc Tryz.prog W 0 (fun _ => true) true Tryz.f8.params.toList args.toList ds p := hA0
  rw [Tryz.params8] at hA hval
  obtain ⟨v0, vs0, d0, ds0, p0, q0, hargs, rfl, rfl, h0, r0⟩ := trodAll_cons hA
  obtain ⟨rfl, rfl, rfl⟩ := trodAll_nil r0
  obtain rfl : args = #[v0] := by cases args; simp_all
  obtain ⟨rfl, rfl⟩ := trodVars_none hV
  obtain ⟨c0, rfl, _⟩ := okWide_struct Tryz.underlying32 (hval 0 32 v0 rfl rfl)
  have k0 := h0
  have lt0 : ∀ x ∈ p0, x.block < W.heap.size := by obtain ⟨m, hm⟩ := k0; exact DataW.trod_lt m _ _ _ hm
  obtain ⟨H0, T0, e0, w0⟩ : ∃ (h : Tab.Hd) (T : Tab.Tab), c0 = (T.cells h).toArray ∧ Tab.IsTab W h T := by
    obtain ⟨fuel, hf⟩ := h0
    obtain ⟨h, T, e, k⟩ := TabArg.open_tab hf
    exact ⟨h, T, by rw [← e]; simp [Value.cells], k⟩
  subst e0
  clear hA0 hval0
  refine (walk T0 H0 W w0).mono fun e W' ⟨he, bel⟩ => ?_
  subst he
  exact ⟨_, rfl, _, _, _, [], _, [], hW', trodAll_mk1 (shut_bool Tryz.underlying4 _), (trodAll_cons_mk (Below.trod laidOut (by kernel_rfl) (of_decide_eq_true (by kernel_rfl)) k0 bel lt0) trodAll_mk0), rfl, bel.frame _, fun h => by cases h⟩

theorem over : Rows.boundAllRow.holds Tryz.pinned (OpenSpec.ofChange Rows.boundAllSpec) :=
  OpenClaim.holds_of_wide 8 Tryz.f8 rfl rfl rfl rfl rfl rfl rfl ⟨rfl, rfl, rfl, rfl, rfl⟩ rfl rfl rfl rfl rfl (by kernel_rfl) Tryz.func8 (by kernel_rfl)
    (of_decide_eq_true (by kernel_rfl)) (by unfold Func.isWrapper; first | (rw [if_pos (by decide +kernel)]; kernel_rfl) | (rw [if_neg (by decide +kernel)]; exact ⟨rfl, rfl⟩))
    (fun os started H enc _ => lifted os started H enc)

/-- the statement -/
theorem proved : Rows.BoundAllSaid :=
  over
#print axioms proved
end Go.Proofs.YtjolhoilcibdfaaGreat.boundAll
