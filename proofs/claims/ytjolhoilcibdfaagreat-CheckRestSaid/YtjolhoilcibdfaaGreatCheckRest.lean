/- CheckRest returns true at any numbers, any detector, rail, bus: package check's Check returns what the document's own returns. No condition. -/
import Derived.Test.YtjolhoilcibdfaaGreatRows
import Derived.Test.YtjolhoilcibdfaaGreatPart08
import Derived.Test.YtjolhoilcibdfaaGreatPart10
import Derived.Test.YtjolhoilcibdfaaGreatPart12
import Derived.Test.YtjolhoilcibdfaaGreatPart14
import Derived.Test.YtjolhoilcibdfaaGreatPart04
import Derived.Deep.Cut
import Derived.LoopTactic
import Derived.Test.YtjolhoilcibdfaaGreatPart03
import Derived.StillTailTactics
import Derived.Great.BuildSlice
import Derived.WalkKit
import Derived.WalkLawsBesides
import Derived.ProofKit
import Derived.OpenShut
import Derived.ShutString
import Derived.ChangeOld
import Derived.Below
set_option linter.unusedVariables false
set_option linter.unusedSimpArgs false
set_option linter.unusedSectionVars false
namespace Go.Proofs.YtjolhoilcibdfaaGreat.checkRest
open Go.ChangeShapes Go.WideShapes Go.ChangeAt Go.RowKit
open Tab PlaceM PlanM OnS ChkM GenT GenG BendU Gath Clone
open May (infoT infoP)
set_option linter.unusedVariables false
set_option linter.unusedSimpArgs false

theorem own : ownKnob Tryz.prog.godebug = none := by kernel_rfl
theorem laidOut : laidOutB Tryz.prog = true := by kernel_rfl

/-- WHAT THE WALK IS TOLD OF A SLICE OF INTEGERS THAT CAME IN: it is nil; or it leads to a row of 'cap' cells, the numbers 'zs' (the first 'len' are its elements, the rest its spare room), each fitting its kind. -/
def IsRow (k : IntKind) (w : World) (a : Option Addr) (len cap : Nat) (zs : List Int) : Prop :=
  (a = none ∧ len = 0 ∧ cap = 0 ∧ zs = []) ∨
  ∃ x, a = some x ∧ len ≤ cap ∧ cap ≤ maxLen ∧ zs.length = cap ∧ (∀ i, i < zs.length → w.cell? (x.add i) = some (.int k (zs.getD i 0))) ∧ ∀ n ∈ zs, (Lit.int k n).wf = true

theorem isRow_int {w : World} {a : Option Addr} {len cap : Nat} {zs : List Int} (h : IsRow .i64 w a len cap zs) : (zs.take len).length = len ∧ Tab.IntRow w ⟨a, cap⟩ (zs.take len) := by
  rcases h with ⟨rfl, rfl, rfl, rfl⟩ | ⟨x, rfl, h1, h2, h3, h4, _⟩
  · exact ⟨rfl, .inl ⟨rfl, rfl, rfl⟩⟩
  · have hl : (zs.take len).length = len := by rw [List.length_take]; omega
    refine ⟨hl, .inr ⟨x, rfl, by rw [hl]; exact h1, h2, fun i v hv j u hu => ?_⟩⟩
    have hi : i < len := by have := (List.getElem?_eq_some_iff.1 hv).1; omega
    match j, hu with
    | 0, hu =>
      simp at hu
      subst hu
      rw [List.getElem?_take, if_pos hi] at hv
      have := h4 i (by omega)
      rw [List.getD_eq_getElem?_getD, hv] at this
      rw [Nat.mul_one, Tab.add_two, Nat.add_zero]
      exact this
    | j + 1, hu => simp at hu
theorem infoDz3 : (Tryz.prog.info? 45).map (fun i => (i.zero, i.size, i.bytes)) = some (some (.agg #[I 0, F 0, F 0, F 0, F 0, I 0, I 0]), 7, 56) := by kernel_rfl
theorem infoRz3 : (Tryz.prog.info? 47).map (fun i => (i.zero, i.size, i.bytes)) = some (some (.agg #[I 0, I 0, I 0, I 0, I 0, I 0, I 0, I 0, I 0, I 0, I 0]), 11, 88) := by kernel_rfl
theorem infoBz3 : (Tryz.prog.info? 49).map (fun i => (i.zero, i.size, i.bytes)) = some (some (.agg #[I 0, I 0]), 2, 16) := by kernel_rfl
theorem infoDz37 : (Tryz.prog.info? 45).map (·.size) = some 7 := by kernel_rfl
theorem infoRz37 : (Tryz.prog.info? 47).map (·.size) = some 11 := by kernel_rfl
theorem infoBz37 : (Tryz.prog.info? 49).map (·.size) = some 2 := by kernel_rfl
structure Sm (n : Nat) (T : Tab.Tab) : Prop where
  dets : T.dets.length ≤ n
  rails : T.rails.length ≤ n
  buses : T.buses.length ≤ n
theorem sm_gen (L : List Int) : Sm 100 (genTab L) := by
  have a7 := RefS.num_range L 175 9 (by omega)
  have a8 := RefS.num_range L 176 4 (by omega)
  have a9 := RefS.num_range L 177 3 (by omega)
  refine ⟨?_, ?_, ?_⟩
  · rw [Val.genTab_dets, down_len]; omega
  · rw [Val.genTab_rails, down_len]; omega
  · rw [Val.genTab_buses, down_len]; omega

/-! ### the walk -/
set_option maxRecDepth 10000 in
set_option maxHeartbeats 8000000 in
theorem walk (a0 : Option Addr) (len0 cap0 : Nat) (z0 : List Int) (x1 : Tab.Det) (x2 : Tab.Rl) (x3 : Tab.Bs) (a4 : Int) (w : World) (w0 : IsRow .i64 w a0 len0 cap0 z0) (w4 : (Lit.int .i64 a4).wf = true) :
    Calls Tryz.prog 5 #[.slice a0 len0 cap0, .agg x1.cells.toArray, .agg x2.cells.toArray, .agg x3.cells.toArray, .int .i64 a4] w fun e w' => e = .returned (.bool true) ∧ Below w.heap.size w w' := by
  obtain ⟨y0, y1, y2, y3, y4, y5, y6⟩ := x1
  obtain ⟨r0, r1, r2, r3, r4, r5, r6, r7, r8, r9, r10⟩ := x2
  obtain ⟨b0, b1⟩ := x3
  change Calls Tryz.prog 5 #[.slice a0 len0 cap0, .agg #[I y0, F y1, F y2, F y3, F y4, I y5, I y6], .agg #[I r0, I r1, I r2, I r3, I r4, I r5, I r6, I r7, I r8, I r9, I r10], .agg #[I b0, I b1], .int .i64 a4] w _
  obtain ⟨hlen, hrow⟩ := isRow_int w0
  obtain ⟨L, hL⟩ : ∃ L, L = z0.take len0 := ⟨_, rfl⟩
  rw [← hL] at hlen hrow
  clear hL w0
  subst hlen
  have hz := (zero_of_info GenT.infoTz).1
  have hZs : (Clone.zTab.cells Clone.zHd).length = 131 := rfl
  generalize hZ : GenT.zTab.cells GenT.zHd = Z at *
  have ZS : Z.toArray.size = 131 := by rw [← hZ]; rfl
  clear hZ hZs
  have G8 := Lib.hid (GenT.genTab_few L)
  go_enter Tryz.func5, Tryz.ntmps5
  go_upto_region 1 with fail
  have A0 : Hid (Below w.heap.size w (((w.alloc (.cells #[I y0, F y1, F y2, F y3, F y4, I y5, I y6] 45)).alloc (.cells #[I r0, I r1, I r2, I r3, I r4, I r5, I r6, I r7, I r8, I r9, I r10] 47)).alloc (.cells #[I b0, I b1] 49))) := Lib.hid ((((Below.refl _ _).alloc (Nat.le_refl _) _).alloc (by simp) _).alloc (by simp; omega) _)
  have X1 : Hid (Lies (((w.alloc (.cells #[I y0, F y1, F y2, F y3, F y4, I y5, I y6] 45)).alloc (.cells #[I r0, I r1, I r2, I r3, I r4, I r5, I r6, I r7, I r8, I r9, I r10] 47)).alloc (.cells #[I b0, I b1] 49)) ⟨w.heap.size, 0, none⟩ [I y0, F y1, F y2, F y3, F y4, I y5, I y6]) := Lib.hid (((Row.lies_new w #[I y0, F y1, F y2, F y3, F y4, I y5, I y6] 45).below ((Below.refl _ _).alloc (Nat.le_refl _) _)).below ((Below.refl _ _).alloc (Nat.le_refl _) _))
  have X2 : Hid (Lies (((w.alloc (.cells #[I y0, F y1, F y2, F y3, F y4, I y5, I y6] 45)).alloc (.cells #[I r0, I r1, I r2, I r3, I r4, I r5, I r6, I r7, I r8, I r9, I r10] 47)).alloc (.cells #[I b0, I b1] 49)) ⟨w.heap.size + 1, 0, none⟩ [I r0, I r1, I r2, I r3, I r4, I r5, I r6, I r7, I r8, I r9, I r10]) := Lib.hid (by have := (Row.lies_new (w.alloc (.cells #[I y0, F y1, F y2, F y3, F y4, I y5, I y6] 45)) #[I r0, I r1, I r2, I r3, I r4, I r5, I r6, I r7, I r8, I r9, I r10] 47).below ((Below.refl _ _).alloc (Nat.le_refl _) (.cells #[I b0, I b1] 49)); rwa [show (w.alloc (.cells #[I y0, F y1, F y2, F y3, F y4, I y5, I y6] 45)).heap.size = w.heap.size + 1 by simp] at this)
  have X3 : Hid (Lies (((w.alloc (.cells #[I y0, F y1, F y2, F y3, F y4, I y5, I y6] 45)).alloc (.cells #[I r0, I r1, I r2, I r3, I r4, I r5, I r6, I r7, I r8, I r9, I r10] 47)).alloc (.cells #[I b0, I b1] 49)) ⟨w.heap.size + 1 + 1, 0, none⟩ [I b0, I b1]) := Lib.hid (by have := Row.lies_new ((w.alloc (.cells #[I y0, F y1, F y2, F y3, F y4, I y5, I y6] 45)).alloc (.cells #[I r0, I r1, I r2, I r3, I r4, I r5, I r6, I r7, I r8, I r9, I r10] 47)) #[I b0, I b1] 49; rwa [show ((w.alloc (.cells #[I y0, F y1, F y2, F y3, F y4, I y5, I y6] 45)).alloc (.cells #[I r0, I r1, I r2, I r3, I r4, I r5, I r6, I r7, I r8, I r9, I r10] 47)).heap.size = w.heap.size + 1 + 1 by simp] at this)
  generalize (((w.alloc (.cells #[I y0, F y1, F y2, F y3, F y4, I y5, I y6] 45)).alloc (.cells #[I r0, I r1, I r2, I r3, I r4, I r5, I r6, I r7, I r8, I r9, I r10] 47)).alloc (.cells #[I b0, I b1] 49)) = v1 at A0 X1 X2 X3 ⊢
  replace hrow := hrow.below A0.out
  go_wp2_with fail
  refine (GenT.table_own a0 cap0 L v1 hrow).mono ?_
  rintro e u0 ⟨hd, rfl, ht, ow, hb⟩
  have FW0 : Hid (PlaceM.Few (genTab L)) := G8
  have SM0 : Hid (Sm 100 (genTab L)) := Lib.hid (sm_gen L)
  clear G8
  generalize genTab L = T at *
  have FW := FW0
  have SM := SM0
  clear FW0 SM0
  have CS := GenT.cells_cut hd ht.ph ht.cf ht.fl
  have ON := (cells_ok ht).one
  have HT0 := Lib.hid ht
  have OW0 := Lib.hid ow
  have B0 := Lib.hid hb
  have IA : Hid ((Tryz.prog.info? 32).map (·.size) = some (T.cells hd).length) := Lib.hid (by rw [CS]; exact infoT)
  clear hb ht ow
  generalize hc : T.cells hd = c at *
  have HC := Lib.hid hc
  clear hc
  go_upto_region 2 with (refine Row.wpList_store_new rfl 32 _ _ rfl u0 Z.toArray c.toArray rfl rfl rfl (by rw [List.size_toArray]; exact IA.out) (by rw [ZS, List.size_toArray, CS]) ON ?_)
  have hb2 : Hid (Below u0.heap.size u0 (u0.alloc (.cells c.toArray 32))) := Lib.hid ((Below.refl _ _).alloc (Nat.le_refl _) _)
  have UX : Hid (Ux v1 u0.heap.size hd T (u0.alloc (.cells c.toArray 32))) := Lib.hid ⟨B0.out.trans (hb2.out.mono B0.out.size), B0.out.size, by rw [HC.out]; exact heap_alloc_new u0 _, HT0.out.ph, HT0.out.cf, HT0.out.fl, OW0.out.groups.grown (grown_below hb2.out none) (fun m e => by cases e), OW0.out.dets.below hb2.out, OW0.out.rails.below hb2.out, OW0.out.buses.below hb2.out⟩
  generalize u0.alloc (.cells c.toArray 32) = u at hb2 UX ⊢
  clear hb2 HC HT0 OW0 B0 hrow hz ZS ON CS IA
  generalize u0.heap.size = tb at UX ⊢
  go_wp2_with fail
  refine (RefS.place_any a4 4 _ (by decide) (by decide)).mono ?_
  rintro e w' ⟨rfl, rfl⟩
  have hk : a4 % 4 = 0 ∨ a4 % 4 = 1 ∨ a4 % 4 = 2 ∨ a4 % 4 = 3 := by omega
  clear w4
  rcases hk with e | e | e | e
  · rw [e]
    clear e
    obtain ⟨j0, hj, hy0, hy1, hy2⟩ := info_parts infoDz3
    obtain ⟨da, dc, hv⟩ : ∃ da dc, hd.d = ⟨da, dc⟩ := ⟨_, _, rfl⟩
    have c4 : u.cell? ⟨tb, 113, none⟩ = some (.slice da T.dets.length dc) := by rw [UX.out.cell, ← List.getElem?_toArray, (cells_ok UX.out.tab).d, hv]
    have hown2 : u.ownsRow v1.heap.size 45 7 (.slice da T.dets.length dc) T.dets.length (T.dets.flatMap Det.cells) := by have := UX.out.dets; rw [hv] at this; exact this
    have hbase := UX.out.bel.size
    have hsl : T.dets.length ≤ 100 := SM.out.dets
    have LB : Hid (Lies u ⟨w.heap.size, 0, none⟩ [I y0, F y1, F y2, F y3, F y4, I y5, I y6]) := Lib.hid (X1.out.below UX.out.bel)
    go_wp2_with (first | (refine Row.wpList_load_g 45 _ rfl (by first | rfl | go_simp) ⟨w.heap.size, 0, none⟩ rfl [I y0, F y1, F y2, F y3, F y4, I y5, I y6] _ LB.out Tryz.underlying45 rfl infoDz37 ?_) | (at_builtin; refine wpList_append_own _ rfl _ _ 28 rfl v1.heap.size 45 j0 (.agg #[I 0, F 0, F 0, F 0, F 0, I 0, I 0]) 7 56 Tryz.underlying28 hj hy0 hy1 hy2 rfl (by decide) _ _ _ rfl (hown2.alloc _) ⟨u.heap.size, 0, none⟩ 1 1 [I y0, F y1, F y2, F y3, F y4, I y5, I y6] rfl rfl ?c1 ?c2 ?c3 ?c4 ?c5 ?_))
    case c1 =>
      intro m e hm
      exact Row.lies_of_block (heap_alloc_new u _) m e hm
    case c2 => intro e he; have h1 : (#[I y0, F y1, F y2, F y3, F y4, I y5, I y6] : Array Value).all (·.oneCell') = true := by simp [Value.oneCell']
               exact (Array.all_eq_true_iff_forall_mem.1 h1) e (by simpa using he)
    case c3 => unfold maxLen; omega
    case c4 => omega
    case c5 => simp; omega
    intro v' w5 hown' hgrow hnil'
    obtain ⟨hbk, a', c', rfl, hG⟩ := (UX.out.step ((Below.refl _ _).alloc (Nat.le_refl _) _)).put_dets (⟨y0, y1, y2, y3, y4, y5, y6⟩ : Tab.Det) (by rw [hv]; exact hgrow) hown'
    have c5 : w5.cell? ⟨tb, 113, none⟩ = some (.slice da T.dets.length dc) := by rw [cell_of_row _ _ _ _ _ _ hbk, (cells_ok UX.out.tab).d, hv]
    have f5 : w5.frozen? ⟨tb, 113, none⟩ = false := frozen_of_row _ _ _ _ _ hbk
    obtain ⟨hd2, hhd⟩ : ∃ x : Tab.Hd, x = ⟨hd.g, ⟨a', c'⟩, hd.r, hd.b⟩ := ⟨_, rfl⟩
    obtain ⟨T2, hTT⟩ : ∃ x : Tab.Tab, x = { T with dets := T.dets ++ [⟨y0, y1, y2, y3, y4, y5, y6⟩] } := ⟨_, rfl⟩
    rw [← hhd, ← hTT] at hG
    have UX2 := Lib.hid hG
    have FW0 := FW
    have SM0 := SM
    have FW : Hid (PlaceM.Few T2) := Lib.hid (by rw [hTT]; exact ⟨FW0.out.groups, FW0.out.rows⟩)
    have SM : Hid (Sm 101 T2) := Lib.hid (by rw [hTT]; exact ⟨by simp; have := SM0.out.dets; omega, by have := SM0.out.rails; simp only; omega, by have := SM0.out.buses; simp only; omega⟩)
    clear hown' hgrow hown2 hnil' hbk hG UX c4 LB hhd hTT FW0 SM0
    go_upto_region 11 with fail
    generalize w5.setCell ⟨tb, 113, none⟩ (.slice a' (T.dets.length + 1) c') = u2 at UX2 ⊢
    clear c5 f5
    have E0 : Hid (Below w.heap.size w u2) := Lib.hid (A0.out.trans (UX2.out.bel.mono A0.out.size))
    have KT := Lib.hid UX2.out.tab
    have KL : Hid (Lies u2 ⟨tb, 0, none⟩ (Tab.cells T2 hd2)) := Lib.hid (by have := Row.lies_of_block UX2.out.blk; simpa using this)
    have SMT := FW
    clear UX2 X1 X2 X3 A0 SM
    have CK0 : Hid (∀ W, Below u2.heap.size u2 W → Calls Tryz.prog 14 #[.agg (Tab.cells T2 hd2).toArray] W fun e w' => e = .returned (.agg (fcells (chkC T2))) ∧ Below W.heap.size W w') := Lib.hid (fun W hb => ChkK.check_any _ hd2 W (KT.out.below hb))
    have RK0 : Hid (∀ W, Below u2.heap.size u2 W → Calls Tryz.prog 15 #[.agg (Tab.cells T2 hd2).toArray] W fun e w' => e = .returned (.agg (fcells (chkC T2))) ∧ Below W.heap.size W w') := Lib.hid (fun W hb => by rw [ChkZ.chk_eq KT.out.ph KT.out.cf]; exact RkK.rcheck_any _ hd2 W (KT.out.below hb) SMT.out)
    have LN : Hid (∀ W, Below u2.heap.size u2 W → Lies W ⟨tb, 0, none⟩ (Tab.cells T2 hd2)) := Lib.hid (fun W hb => KL.out.below hb)
    have IN : Hid ((Tryz.prog.info? 32).map (·.size) = some (Tab.cells T2 hd2).length) := Lib.hid (by rw [GenT.cells_cut hd2 KT.out.ph KT.out.cf KT.out.fl]; exact infoT)
    obtain ⟨f1, f2, FE, CK, RK⟩ : ∃ (f1 f2 : Int), Hid (Same.Eqs 37 [I f1, I f2] [I f1, I f2] true) ∧ Hid (∀ W, Below u2.heap.size u2 W → Calls Tryz.prog 14 #[.agg (Tab.cells T2 hd2).toArray] W fun e w' => e = .returned (.agg #[I f1, I f2]) ∧ Below W.heap.size W w')
        ∧ Hid (∀ W, Below u2.heap.size u2 W → Calls Tryz.prog 15 #[.agg (Tab.cells T2 hd2).toArray] W fun e w' => e = .returned (.agg #[I f1, I f2]) ∧ Below W.heap.size W w') :=
      ⟨(chkC T2).1, (chkC T2).2, Lib.hid (by have := ChkK.fault_eqs (chkC T2).1 (chkC T2).2 (chkC T2).1 (chkC T2).2; rwa [decide_eq_true (by simp)] at this), CK0, RK0⟩
    clear CK0 RK0 KT KL SMT
    generalize Tab.cells T2 hd2 = cc at *
    have hne : Nonempty (Ph.S (Row.Old u2)) := ⟨⟨0, u2, Below.refl _ _⟩⟩
    have P0 : Hid (∀ p : Ph.S (Row.Old u2), Below u2.heap.size u2 p.world) := Lib.hid (fun p => p.is)
    refine Pw.region (Row.Old u2) [] (by kernel_rfl) (by kernel_rfl) (Row.Old.drew _) ?_
    refine Pw.load rfl (by rfl) 32 _ rfl ⟨tb, 0, none⟩ rfl cc _ (fun p => LN.out _ p.is) Tryz.underlying32 rfl IN.out ?_
    (try dsimp only [Act.put]); (try simp only [List.setIfInBounds_toArray, List.set_cons_zero, List.set_cons_succ])
    (refine Pw.calm rfl (fun K hK => ?_)
     go_simp
     refine ⟨_, fun p => Row.Old.call (CK.out _ (P0.out p)), hK _ ?_⟩
     clear hK K)
    refine Pw.load rfl (by rfl) 32 _ rfl ⟨tb, 0, none⟩ rfl cc _ (fun p => LN.out _ p.is) Tryz.underlying32 rfl IN.out ?_
    (try dsimp only [Act.put]); (try simp only [List.setIfInBounds_toArray, List.set_cons_zero, List.set_cons_succ])
    (refine Pw.calm rfl (fun K hK => ?_)
     go_simp
     refine ⟨_, fun p => Row.Old.call (RK.out _ (P0.out p)), hK _ ?_⟩
     clear hK K)
    refine Pw.eql 37 _ _ _ rfl rfl (by rfl) #[I f1, I f2] #[I f1, I f2] rfl rfl ChkK.guardF true FE.out ?_
    (try dsimp only [Act.put]); (try simp only [List.setIfInBounds_toArray, List.set_cons_zero, List.set_cons_succ])
    iterate 1
      (refine Pw.calm rfl (fun K hK => ?_)
       go_simp
       refine hK _ ?_
       clear hK K)
    (refine Pw.calm rfl (fun K hK => ?_)
     go_simp
     refine ⟨_, fun p => Row.Old.call (Wa9.awake_any _), hK _ ?_⟩
     clear hK K)
    iterate 2
      (refine Pw.calm rfl (fun K hK => ?_)
       go_simp
       refine hK _ ?_
       clear hK K)
    refine Pw.nil ?_
    intro u9 hb9
    have E := Lib.hid (E0.out.trans (hb9.mono E0.out.size))
    clear hb9 hne P0
    go_wp2
    go_ret
    exact ⟨rfl, E.out⟩
  · rw [e]
    clear e
    obtain ⟨j0, hj, hy0, hy1, hy2⟩ := info_parts infoRz3
    obtain ⟨da, dc, hv⟩ : ∃ da dc, hd.r = ⟨da, dc⟩ := ⟨_, _, rfl⟩
    have c4 : u.cell? ⟨tb, 114, none⟩ = some (.slice da T.rails.length dc) := by rw [UX.out.cell, ← List.getElem?_toArray, (cells_ok UX.out.tab).r, hv]
    have hown2 : u.ownsRow v1.heap.size 47 11 (.slice da T.rails.length dc) T.rails.length (T.rails.flatMap Rl.cells) := by have := UX.out.rails; rw [hv] at this; exact this
    have hbase := UX.out.bel.size
    have hsl : T.rails.length ≤ 100 := SM.out.rails
    have LB : Hid (Lies u ⟨w.heap.size + 1, 0, none⟩ [I r0, I r1, I r2, I r3, I r4, I r5, I r6, I r7, I r8, I r9, I r10]) := Lib.hid (X2.out.below UX.out.bel)
    go_wp2_with (first | (refine Row.wpList_load_g 47 _ rfl (by first | rfl | go_simp) ⟨w.heap.size + 1, 0, none⟩ rfl [I r0, I r1, I r2, I r3, I r4, I r5, I r6, I r7, I r8, I r9, I r10] _ LB.out Tryz.underlying47 rfl infoRz37 ?_) | (at_builtin; refine wpList_append_own _ rfl _ _ 29 rfl v1.heap.size 47 j0 (.agg #[I 0, I 0, I 0, I 0, I 0, I 0, I 0, I 0, I 0, I 0, I 0]) 11 88 Tryz.underlying29 hj hy0 hy1 hy2 rfl (by decide) _ _ _ rfl (hown2.alloc _) ⟨u.heap.size, 0, none⟩ 1 1 [I r0, I r1, I r2, I r3, I r4, I r5, I r6, I r7, I r8, I r9, I r10] rfl rfl ?c1 ?c2 ?c3 ?c4 ?c5 ?_))
    case c1 =>
      intro m e hm
      exact Row.lies_of_block (heap_alloc_new u _) m e hm
    case c2 => intro e he; have h1 : (#[I r0, I r1, I r2, I r3, I r4, I r5, I r6, I r7, I r8, I r9, I r10] : Array Value).all (·.oneCell') = true := by simp [Value.oneCell']
               exact (Array.all_eq_true_iff_forall_mem.1 h1) e (by simpa using he)
    case c3 => unfold maxLen; omega
    case c4 => omega
    case c5 => simp; omega
    intro v' w5 hown' hgrow hnil'
    obtain ⟨hbk, a', c', rfl, hG⟩ := (UX.out.step ((Below.refl _ _).alloc (Nat.le_refl _) _)).put_rails (⟨r0, r1, r2, r3, r4, r5, r6, r7, r8, r9, r10⟩ : Tab.Rl) (by rw [hv]; exact hgrow) hown'
    have c5 : w5.cell? ⟨tb, 114, none⟩ = some (.slice da T.rails.length dc) := by rw [cell_of_row _ _ _ _ _ _ hbk, (cells_ok UX.out.tab).r, hv]
    have f5 : w5.frozen? ⟨tb, 114, none⟩ = false := frozen_of_row _ _ _ _ _ hbk
    obtain ⟨hd2, hhd⟩ : ∃ x : Tab.Hd, x = ⟨hd.g, hd.d, ⟨a', c'⟩, hd.b⟩ := ⟨_, rfl⟩
    obtain ⟨T2, hTT⟩ : ∃ x : Tab.Tab, x = { T with rails := T.rails ++ [⟨r0, r1, r2, r3, r4, r5, r6, r7, r8, r9, r10⟩] } := ⟨_, rfl⟩
    rw [← hhd, ← hTT] at hG
    have UX2 := Lib.hid hG
    have FW0 := FW
    have SM0 := SM
    have FW : Hid (PlaceM.Few T2) := Lib.hid (by rw [hTT]; exact ⟨FW0.out.groups, FW0.out.rows⟩)
    have SM : Hid (Sm 101 T2) := Lib.hid (by rw [hTT]; exact ⟨by have := SM0.out.dets; simp only; omega, by simp; have := SM0.out.rails; omega, by have := SM0.out.buses; simp only; omega⟩)
    clear hown' hgrow hown2 hnil' hbk hG UX c4 LB hhd hTT FW0 SM0
    go_upto_region 11 with fail
    generalize w5.setCell ⟨tb, 114, none⟩ (.slice a' (T.rails.length + 1) c') = u2 at UX2 ⊢
    clear c5 f5
    have E0 : Hid (Below w.heap.size w u2) := Lib.hid (A0.out.trans (UX2.out.bel.mono A0.out.size))
    have KT := Lib.hid UX2.out.tab
    have KL : Hid (Lies u2 ⟨tb, 0, none⟩ (Tab.cells T2 hd2)) := Lib.hid (by have := Row.lies_of_block UX2.out.blk; simpa using this)
    have SMT := FW
    clear UX2 X1 X2 X3 A0 SM
    have CK0 : Hid (∀ W, Below u2.heap.size u2 W → Calls Tryz.prog 14 #[.agg (Tab.cells T2 hd2).toArray] W fun e w' => e = .returned (.agg (fcells (chkC T2))) ∧ Below W.heap.size W w') := Lib.hid (fun W hb => ChkK.check_any _ hd2 W (KT.out.below hb))
    have RK0 : Hid (∀ W, Below u2.heap.size u2 W → Calls Tryz.prog 15 #[.agg (Tab.cells T2 hd2).toArray] W fun e w' => e = .returned (.agg (fcells (chkC T2))) ∧ Below W.heap.size W w') := Lib.hid (fun W hb => by rw [ChkZ.chk_eq KT.out.ph KT.out.cf]; exact RkK.rcheck_any _ hd2 W (KT.out.below hb) SMT.out)
    have LN : Hid (∀ W, Below u2.heap.size u2 W → Lies W ⟨tb, 0, none⟩ (Tab.cells T2 hd2)) := Lib.hid (fun W hb => KL.out.below hb)
    have IN : Hid ((Tryz.prog.info? 32).map (·.size) = some (Tab.cells T2 hd2).length) := Lib.hid (by rw [GenT.cells_cut hd2 KT.out.ph KT.out.cf KT.out.fl]; exact infoT)
    obtain ⟨f1, f2, FE, CK, RK⟩ : ∃ (f1 f2 : Int), Hid (Same.Eqs 37 [I f1, I f2] [I f1, I f2] true) ∧ Hid (∀ W, Below u2.heap.size u2 W → Calls Tryz.prog 14 #[.agg (Tab.cells T2 hd2).toArray] W fun e w' => e = .returned (.agg #[I f1, I f2]) ∧ Below W.heap.size W w')
        ∧ Hid (∀ W, Below u2.heap.size u2 W → Calls Tryz.prog 15 #[.agg (Tab.cells T2 hd2).toArray] W fun e w' => e = .returned (.agg #[I f1, I f2]) ∧ Below W.heap.size W w') :=
      ⟨(chkC T2).1, (chkC T2).2, Lib.hid (by have := ChkK.fault_eqs (chkC T2).1 (chkC T2).2 (chkC T2).1 (chkC T2).2; rwa [decide_eq_true (by simp)] at this), CK0, RK0⟩
    clear CK0 RK0 KT KL SMT
    generalize Tab.cells T2 hd2 = cc at *
    have hne : Nonempty (Ph.S (Row.Old u2)) := ⟨⟨0, u2, Below.refl _ _⟩⟩
    have P0 : Hid (∀ p : Ph.S (Row.Old u2), Below u2.heap.size u2 p.world) := Lib.hid (fun p => p.is)
    refine Pw.region (Row.Old u2) [] (by kernel_rfl) (by kernel_rfl) (Row.Old.drew _) ?_
    refine Pw.load rfl (by rfl) 32 _ rfl ⟨tb, 0, none⟩ rfl cc _ (fun p => LN.out _ p.is) Tryz.underlying32 rfl IN.out ?_
    (try dsimp only [Act.put]); (try simp only [List.setIfInBounds_toArray, List.set_cons_zero, List.set_cons_succ])
    (refine Pw.calm rfl (fun K hK => ?_)
     go_simp
     refine ⟨_, fun p => Row.Old.call (CK.out _ (P0.out p)), hK _ ?_⟩
     clear hK K)
    refine Pw.load rfl (by rfl) 32 _ rfl ⟨tb, 0, none⟩ rfl cc _ (fun p => LN.out _ p.is) Tryz.underlying32 rfl IN.out ?_
    (try dsimp only [Act.put]); (try simp only [List.setIfInBounds_toArray, List.set_cons_zero, List.set_cons_succ])
    (refine Pw.calm rfl (fun K hK => ?_)
     go_simp
     refine ⟨_, fun p => Row.Old.call (RK.out _ (P0.out p)), hK _ ?_⟩
     clear hK K)
    refine Pw.eql 37 _ _ _ rfl rfl (by rfl) #[I f1, I f2] #[I f1, I f2] rfl rfl ChkK.guardF true FE.out ?_
    (try dsimp only [Act.put]); (try simp only [List.setIfInBounds_toArray, List.set_cons_zero, List.set_cons_succ])
    iterate 1
      (refine Pw.calm rfl (fun K hK => ?_)
       go_simp
       refine hK _ ?_
       clear hK K)
    (refine Pw.calm rfl (fun K hK => ?_)
     go_simp
     refine ⟨_, fun p => Row.Old.call (Wa9.awake_any _), hK _ ?_⟩
     clear hK K)
    iterate 2
      (refine Pw.calm rfl (fun K hK => ?_)
       go_simp
       refine hK _ ?_
       clear hK K)
    refine Pw.nil ?_
    intro u9 hb9
    have E := Lib.hid (E0.out.trans (hb9.mono E0.out.size))
    clear hb9 hne P0
    go_wp2
    go_ret
    exact ⟨rfl, E.out⟩
  · rw [e]
    clear e
    obtain ⟨j0, hj, hy0, hy1, hy2⟩ := info_parts infoBz3
    obtain ⟨da, dc, hv⟩ : ∃ da dc, hd.b = ⟨da, dc⟩ := ⟨_, _, rfl⟩
    have c4 : u.cell? ⟨tb, 115, none⟩ = some (.slice da T.buses.length dc) := by rw [UX.out.cell, ← List.getElem?_toArray, (cells_ok UX.out.tab).b, hv]
    have hown2 : u.ownsRow v1.heap.size 49 2 (.slice da T.buses.length dc) T.buses.length (T.buses.flatMap Bs.cells) := by have := UX.out.buses; rw [hv] at this; exact this
    have hbase := UX.out.bel.size
    have hsl : T.buses.length ≤ 100 := SM.out.buses
    have LB : Hid (Lies u ⟨w.heap.size + 1 + 1, 0, none⟩ [I b0, I b1]) := Lib.hid (X3.out.below UX.out.bel)
    go_wp2_with (first | (refine Row.wpList_load_g 49 _ rfl (by first | rfl | go_simp) ⟨w.heap.size + 1 + 1, 0, none⟩ rfl [I b0, I b1] _ LB.out Tryz.underlying49 rfl infoBz37 ?_) | (at_builtin; refine wpList_append_own _ rfl _ _ 30 rfl v1.heap.size 49 j0 (.agg #[I 0, I 0]) 2 16 Tryz.underlying30 hj hy0 hy1 hy2 rfl (by decide) _ _ _ rfl (hown2.alloc _) ⟨u.heap.size, 0, none⟩ 1 1 [I b0, I b1] rfl rfl ?c1 ?c2 ?c3 ?c4 ?c5 ?_))
    case c1 =>
      intro m e hm
      exact Row.lies_of_block (heap_alloc_new u _) m e hm
    case c2 => intro e he; have h1 : (#[I b0, I b1] : Array Value).all (·.oneCell') = true := by simp [Value.oneCell']
               exact (Array.all_eq_true_iff_forall_mem.1 h1) e (by simpa using he)
    case c3 => unfold maxLen; omega
    case c4 => omega
    case c5 => simp; omega
    intro v' w5 hown' hgrow hnil'
    obtain ⟨hbk, a', c', rfl, hG⟩ := (UX.out.step ((Below.refl _ _).alloc (Nat.le_refl _) _)).put_buses (⟨b0, b1⟩ : Tab.Bs) (by rw [hv]; exact hgrow) hown'
    have c5 : w5.cell? ⟨tb, 115, none⟩ = some (.slice da T.buses.length dc) := by rw [cell_of_row _ _ _ _ _ _ hbk, (cells_ok UX.out.tab).b, hv]
    have f5 : w5.frozen? ⟨tb, 115, none⟩ = false := frozen_of_row _ _ _ _ _ hbk
    obtain ⟨hd2, hhd⟩ : ∃ x : Tab.Hd, x = ⟨hd.g, hd.d, hd.r, ⟨a', c'⟩⟩ := ⟨_, rfl⟩
    obtain ⟨T2, hTT⟩ : ∃ x : Tab.Tab, x = { T with buses := T.buses ++ [⟨b0, b1⟩] } := ⟨_, rfl⟩
    rw [← hhd, ← hTT] at hG
    have UX2 := Lib.hid hG
    have FW0 := FW
    have SM0 := SM
    have FW : Hid (PlaceM.Few T2) := Lib.hid (by rw [hTT]; exact ⟨FW0.out.groups, FW0.out.rows⟩)
    have SM : Hid (Sm 101 T2) := Lib.hid (by rw [hTT]; exact ⟨by have := SM0.out.dets; simp only; omega, by have := SM0.out.rails; simp only; omega, by simp; have := SM0.out.buses; omega⟩)
    clear hown' hgrow hown2 hnil' hbk hG UX c4 LB hhd hTT FW0 SM0
    go_upto_region 11 with fail
    generalize w5.setCell ⟨tb, 115, none⟩ (.slice a' (T.buses.length + 1) c') = u2 at UX2 ⊢
    clear c5 f5
    have E0 : Hid (Below w.heap.size w u2) := Lib.hid (A0.out.trans (UX2.out.bel.mono A0.out.size))
    have KT := Lib.hid UX2.out.tab
    have KL : Hid (Lies u2 ⟨tb, 0, none⟩ (Tab.cells T2 hd2)) := Lib.hid (by have := Row.lies_of_block UX2.out.blk; simpa using this)
    have SMT := FW
    clear UX2 X1 X2 X3 A0 SM
    have CK0 : Hid (∀ W, Below u2.heap.size u2 W → Calls Tryz.prog 14 #[.agg (Tab.cells T2 hd2).toArray] W fun e w' => e = .returned (.agg (fcells (chkC T2))) ∧ Below W.heap.size W w') := Lib.hid (fun W hb => ChkK.check_any _ hd2 W (KT.out.below hb))
    have RK0 : Hid (∀ W, Below u2.heap.size u2 W → Calls Tryz.prog 15 #[.agg (Tab.cells T2 hd2).toArray] W fun e w' => e = .returned (.agg (fcells (chkC T2))) ∧ Below W.heap.size W w') := Lib.hid (fun W hb => by rw [ChkZ.chk_eq KT.out.ph KT.out.cf]; exact RkK.rcheck_any _ hd2 W (KT.out.below hb) SMT.out)
    have LN : Hid (∀ W, Below u2.heap.size u2 W → Lies W ⟨tb, 0, none⟩ (Tab.cells T2 hd2)) := Lib.hid (fun W hb => KL.out.below hb)
    have IN : Hid ((Tryz.prog.info? 32).map (·.size) = some (Tab.cells T2 hd2).length) := Lib.hid (by rw [GenT.cells_cut hd2 KT.out.ph KT.out.cf KT.out.fl]; exact infoT)
    obtain ⟨f1, f2, FE, CK, RK⟩ : ∃ (f1 f2 : Int), Hid (Same.Eqs 37 [I f1, I f2] [I f1, I f2] true) ∧ Hid (∀ W, Below u2.heap.size u2 W → Calls Tryz.prog 14 #[.agg (Tab.cells T2 hd2).toArray] W fun e w' => e = .returned (.agg #[I f1, I f2]) ∧ Below W.heap.size W w')
        ∧ Hid (∀ W, Below u2.heap.size u2 W → Calls Tryz.prog 15 #[.agg (Tab.cells T2 hd2).toArray] W fun e w' => e = .returned (.agg #[I f1, I f2]) ∧ Below W.heap.size W w') :=
      ⟨(chkC T2).1, (chkC T2).2, Lib.hid (by have := ChkK.fault_eqs (chkC T2).1 (chkC T2).2 (chkC T2).1 (chkC T2).2; rwa [decide_eq_true (by simp)] at this), CK0, RK0⟩
    clear CK0 RK0 KT KL SMT
    generalize Tab.cells T2 hd2 = cc at *
    have hne : Nonempty (Ph.S (Row.Old u2)) := ⟨⟨0, u2, Below.refl _ _⟩⟩
    have P0 : Hid (∀ p : Ph.S (Row.Old u2), Below u2.heap.size u2 p.world) := Lib.hid (fun p => p.is)
    refine Pw.region (Row.Old u2) [] (by kernel_rfl) (by kernel_rfl) (Row.Old.drew _) ?_
    refine Pw.load rfl (by rfl) 32 _ rfl ⟨tb, 0, none⟩ rfl cc _ (fun p => LN.out _ p.is) Tryz.underlying32 rfl IN.out ?_
    (try dsimp only [Act.put]); (try simp only [List.setIfInBounds_toArray, List.set_cons_zero, List.set_cons_succ])
    (refine Pw.calm rfl (fun K hK => ?_)
     go_simp
     refine ⟨_, fun p => Row.Old.call (CK.out _ (P0.out p)), hK _ ?_⟩
     clear hK K)
    refine Pw.load rfl (by rfl) 32 _ rfl ⟨tb, 0, none⟩ rfl cc _ (fun p => LN.out _ p.is) Tryz.underlying32 rfl IN.out ?_
    (try dsimp only [Act.put]); (try simp only [List.setIfInBounds_toArray, List.set_cons_zero, List.set_cons_succ])
    (refine Pw.calm rfl (fun K hK => ?_)
     go_simp
     refine ⟨_, fun p => Row.Old.call (RK.out _ (P0.out p)), hK _ ?_⟩
     clear hK K)
    refine Pw.eql 37 _ _ _ rfl rfl (by rfl) #[I f1, I f2] #[I f1, I f2] rfl rfl ChkK.guardF true FE.out ?_
    (try dsimp only [Act.put]); (try simp only [List.setIfInBounds_toArray, List.set_cons_zero, List.set_cons_succ])
    iterate 1
      (refine Pw.calm rfl (fun K hK => ?_)
       go_simp
       refine hK _ ?_
       clear hK K)
    (refine Pw.calm rfl (fun K hK => ?_)
     go_simp
     refine ⟨_, fun p => Row.Old.call (Wa9.awake_any _), hK _ ?_⟩
     clear hK K)
    iterate 2
      (refine Pw.calm rfl (fun K hK => ?_)
       go_simp
       refine hK _ ?_
       clear hK K)
    refine Pw.nil ?_
    intro u9 hb9
    have E := Lib.hid (E0.out.trans (hb9.mono E0.out.size))
    clear hb9 hne P0
    go_wp2
    go_ret
    exact ⟨rfl, E.out⟩
  · rw [e]
    clear e
    obtain ⟨j0, hj, hy0, hy1, hy2⟩ := info_parts infoRz3
    obtain ⟨da, dc, hv⟩ : ∃ da dc, hd.r = ⟨da, dc⟩ := ⟨_, _, rfl⟩
    have c4 : u.cell? ⟨tb, 114, none⟩ = some (.slice da T.rails.length dc) := by rw [UX.out.cell, ← List.getElem?_toArray, (cells_ok UX.out.tab).r, hv]
    have hown2 : u.ownsRow v1.heap.size 47 11 (.slice da T.rails.length dc) T.rails.length (T.rails.flatMap Rl.cells) := by have := UX.out.rails; rw [hv] at this; exact this
    have hbase := UX.out.bel.size
    have hsl : T.rails.length ≤ 100 := SM.out.rails
    have LB : Hid (Lies u ⟨w.heap.size + 1, 0, none⟩ [I r0, I r1, I r2, I r3, I r4, I r5, I r6, I r7, I r8, I r9, I r10]) := Lib.hid (X2.out.below UX.out.bel)
    go_wp2_with (first | (refine Row.wpList_load_g 47 _ rfl (by first | rfl | go_simp) ⟨w.heap.size + 1, 0, none⟩ rfl [I r0, I r1, I r2, I r3, I r4, I r5, I r6, I r7, I r8, I r9, I r10] _ LB.out Tryz.underlying47 rfl infoRz37 ?_) | (at_builtin; refine wpList_append_own _ rfl _ _ 29 rfl v1.heap.size 47 j0 (.agg #[I 0, I 0, I 0, I 0, I 0, I 0, I 0, I 0, I 0, I 0, I 0]) 11 88 Tryz.underlying29 hj hy0 hy1 hy2 rfl (by decide) _ _ _ rfl (hown2.alloc _) ⟨u.heap.size, 0, none⟩ 1 1 [I r0, I r1, I r2, I r3, I r4, I r5, I r6, I r7, I r8, I r9, I r10] rfl rfl ?c1 ?c2 ?c3 ?c4 ?c5 ?_))
    case c1 =>
      intro m e hm
      exact Row.lies_of_block (heap_alloc_new u _) m e hm
    case c2 => intro e he; have h1 : (#[I r0, I r1, I r2, I r3, I r4, I r5, I r6, I r7, I r8, I r9, I r10] : Array Value).all (·.oneCell') = true := by simp [Value.oneCell']
               exact (Array.all_eq_true_iff_forall_mem.1 h1) e (by simpa using he)
    case c3 => unfold maxLen; omega
    case c4 => omega
    case c5 => simp; omega
    intro v' w5 hown' hgrow hnil'
    obtain ⟨hbk, a', c', rfl, hG⟩ := (UX.out.step ((Below.refl _ _).alloc (Nat.le_refl _) _)).put_rails (⟨r0, r1, r2, r3, r4, r5, r6, r7, r8, r9, r10⟩ : Tab.Rl) (by rw [hv]; exact hgrow) hown'
    have c5 : w5.cell? ⟨tb, 114, none⟩ = some (.slice da T.rails.length dc) := by rw [cell_of_row _ _ _ _ _ _ hbk, (cells_ok UX.out.tab).r, hv]
    have f5 : w5.frozen? ⟨tb, 114, none⟩ = false := frozen_of_row _ _ _ _ _ hbk
    obtain ⟨hd2, hhd⟩ : ∃ x : Tab.Hd, x = ⟨hd.g, hd.d, ⟨a', c'⟩, hd.b⟩ := ⟨_, rfl⟩
    obtain ⟨T2, hTT⟩ : ∃ x : Tab.Tab, x = { T with rails := T.rails ++ [⟨r0, r1, r2, r3, r4, r5, r6, r7, r8, r9, r10⟩] } := ⟨_, rfl⟩
    rw [← hhd, ← hTT] at hG
    have UX2 := Lib.hid hG
    have FW0 := FW
    have SM0 := SM
    have FW : Hid (PlaceM.Few T2) := Lib.hid (by rw [hTT]; exact ⟨FW0.out.groups, FW0.out.rows⟩)
    have SM : Hid (Sm 101 T2) := Lib.hid (by rw [hTT]; exact ⟨by have := SM0.out.dets; simp only; omega, by simp; have := SM0.out.rails; omega, by have := SM0.out.buses; simp only; omega⟩)
    clear hown' hgrow hown2 hnil' hbk hG UX c4 LB hhd hTT FW0 SM0
    go_upto_region 4 with fail
    generalize w5.setCell ⟨tb, 114, none⟩ (.slice a' (T.rails.length + 1) c') = u2 at UX2 ⊢
    clear c5 f5
    obtain ⟨j0, hj, hy0, hy1, hy2⟩ := info_parts infoBz3
    obtain ⟨da, dc, hv⟩ : ∃ da dc, hd2.b = ⟨da, dc⟩ := ⟨_, _, rfl⟩
    have c4 : u2.cell? ⟨tb, 115, none⟩ = some (.slice da T2.buses.length dc) := by rw [UX2.out.cell, ← List.getElem?_toArray, (cells_ok UX2.out.tab).b, hv]
    have hown2 : u2.ownsRow v1.heap.size 49 2 (.slice da T2.buses.length dc) T2.buses.length (T2.buses.flatMap Bs.cells) := by have := UX2.out.buses; rw [hv] at this; exact this
    have hbase := UX2.out.bel.size
    have hsl : T2.buses.length ≤ 101 := SM.out.buses
    have LB : Hid (Lies u2 ⟨w.heap.size + 1 + 1, 0, none⟩ [I b0, I b1]) := Lib.hid (X3.out.below UX2.out.bel)
    go_wp2_with (first | (refine Row.wpList_load_g 49 _ rfl (by first | rfl | go_simp) ⟨w.heap.size + 1 + 1, 0, none⟩ rfl [I b0, I b1] _ LB.out Tryz.underlying49 rfl infoBz37 ?_) | (at_builtin; refine wpList_append_own _ rfl _ _ 30 rfl v1.heap.size 49 j0 (.agg #[I 0, I 0]) 2 16 Tryz.underlying30 hj hy0 hy1 hy2 rfl (by decide) _ _ _ rfl (hown2.alloc _) ⟨u2.heap.size, 0, none⟩ 1 1 [I b0, I b1] rfl rfl ?c1 ?c2 ?c3 ?c4 ?c5 ?_))
    case c1 =>
      intro m e hm
      exact Row.lies_of_block (heap_alloc_new u2 _) m e hm
    case c2 => intro e he; have h1 : (#[I b0, I b1] : Array Value).all (·.oneCell') = true := by simp [Value.oneCell']
               exact (Array.all_eq_true_iff_forall_mem.1 h1) e (by simpa using he)
    case c3 => unfold maxLen; omega
    case c4 => omega
    case c5 => simp; omega
    intro v' w5 hown' hgrow hnil'
    obtain ⟨hbk, a', c', rfl, hG⟩ := (UX2.out.step ((Below.refl _ _).alloc (Nat.le_refl _) _)).put_buses (⟨b0, b1⟩ : Tab.Bs) (by rw [hv]; exact hgrow) hown'
    have c5 : w5.cell? ⟨tb, 115, none⟩ = some (.slice da T2.buses.length dc) := by rw [cell_of_row _ _ _ _ _ _ hbk, (cells_ok UX2.out.tab).b, hv]
    have f5 : w5.frozen? ⟨tb, 115, none⟩ = false := frozen_of_row _ _ _ _ _ hbk
    obtain ⟨hd3, hhd⟩ : ∃ x : Tab.Hd, x = ⟨hd2.g, hd2.d, hd2.r, ⟨a', c'⟩⟩ := ⟨_, rfl⟩
    obtain ⟨T3, hTT⟩ : ∃ x : Tab.Tab, x = { T2 with buses := T2.buses ++ [⟨b0, b1⟩] } := ⟨_, rfl⟩
    rw [← hhd, ← hTT] at hG
    have UX3 := Lib.hid hG
    have FW0 := FW
    have SM0 := SM
    have FW : Hid (PlaceM.Few T3) := Lib.hid (by rw [hTT]; exact ⟨FW0.out.groups, FW0.out.rows⟩)
    have SM : Hid (Sm 102 T3) := Lib.hid (by rw [hTT]; exact ⟨by have := SM0.out.dets; simp only; omega, by have := SM0.out.rails; simp only; omega, by simp; have := SM0.out.buses; omega⟩)
    clear hown' hgrow hown2 hnil' hbk hG UX2 c4 LB hhd hTT FW0 SM0
    go_upto_region 11 with fail
    generalize w5.setCell ⟨tb, 115, none⟩ (.slice a' (T2.buses.length + 1) c') = u3 at UX3 ⊢
    clear c5 f5
    have E0 : Hid (Below w.heap.size w u3) := Lib.hid (A0.out.trans (UX3.out.bel.mono A0.out.size))
    have KT := Lib.hid UX3.out.tab
    have KL : Hid (Lies u3 ⟨tb, 0, none⟩ (Tab.cells T3 hd3)) := Lib.hid (by have := Row.lies_of_block UX3.out.blk; simpa using this)
    have SMT := FW
    clear UX3 X1 X2 X3 A0 SM
    have CK0 : Hid (∀ W, Below u3.heap.size u3 W → Calls Tryz.prog 14 #[.agg (Tab.cells T3 hd3).toArray] W fun e w' => e = .returned (.agg (fcells (chkC T3))) ∧ Below W.heap.size W w') := Lib.hid (fun W hb => ChkK.check_any _ hd3 W (KT.out.below hb))
    have RK0 : Hid (∀ W, Below u3.heap.size u3 W → Calls Tryz.prog 15 #[.agg (Tab.cells T3 hd3).toArray] W fun e w' => e = .returned (.agg (fcells (chkC T3))) ∧ Below W.heap.size W w') := Lib.hid (fun W hb => by rw [ChkZ.chk_eq KT.out.ph KT.out.cf]; exact RkK.rcheck_any _ hd3 W (KT.out.below hb) SMT.out)
    have LN : Hid (∀ W, Below u3.heap.size u3 W → Lies W ⟨tb, 0, none⟩ (Tab.cells T3 hd3)) := Lib.hid (fun W hb => KL.out.below hb)
    have IN : Hid ((Tryz.prog.info? 32).map (·.size) = some (Tab.cells T3 hd3).length) := Lib.hid (by rw [GenT.cells_cut hd3 KT.out.ph KT.out.cf KT.out.fl]; exact infoT)
    obtain ⟨f1, f2, FE, CK, RK⟩ : ∃ (f1 f2 : Int), Hid (Same.Eqs 37 [I f1, I f2] [I f1, I f2] true) ∧ Hid (∀ W, Below u3.heap.size u3 W → Calls Tryz.prog 14 #[.agg (Tab.cells T3 hd3).toArray] W fun e w' => e = .returned (.agg #[I f1, I f2]) ∧ Below W.heap.size W w')
        ∧ Hid (∀ W, Below u3.heap.size u3 W → Calls Tryz.prog 15 #[.agg (Tab.cells T3 hd3).toArray] W fun e w' => e = .returned (.agg #[I f1, I f2]) ∧ Below W.heap.size W w') :=
      ⟨(chkC T3).1, (chkC T3).2, Lib.hid (by have := ChkK.fault_eqs (chkC T3).1 (chkC T3).2 (chkC T3).1 (chkC T3).2; rwa [decide_eq_true (by simp)] at this), CK0, RK0⟩
    clear CK0 RK0 KT KL SMT
    generalize Tab.cells T3 hd3 = cc at *
    have hne : Nonempty (Ph.S (Row.Old u3)) := ⟨⟨0, u3, Below.refl _ _⟩⟩
    have P0 : Hid (∀ p : Ph.S (Row.Old u3), Below u3.heap.size u3 p.world) := Lib.hid (fun p => p.is)
    refine Pw.region (Row.Old u3) [] (by kernel_rfl) (by kernel_rfl) (Row.Old.drew _) ?_
    refine Pw.load rfl (by rfl) 32 _ rfl ⟨tb, 0, none⟩ rfl cc _ (fun p => LN.out _ p.is) Tryz.underlying32 rfl IN.out ?_
    (try dsimp only [Act.put]); (try simp only [List.setIfInBounds_toArray, List.set_cons_zero, List.set_cons_succ])
    (refine Pw.calm rfl (fun K hK => ?_)
     go_simp
     refine ⟨_, fun p => Row.Old.call (CK.out _ (P0.out p)), hK _ ?_⟩
     clear hK K)
    refine Pw.load rfl (by rfl) 32 _ rfl ⟨tb, 0, none⟩ rfl cc _ (fun p => LN.out _ p.is) Tryz.underlying32 rfl IN.out ?_
    (try dsimp only [Act.put]); (try simp only [List.setIfInBounds_toArray, List.set_cons_zero, List.set_cons_succ])
    (refine Pw.calm rfl (fun K hK => ?_)
     go_simp
     refine ⟨_, fun p => Row.Old.call (RK.out _ (P0.out p)), hK _ ?_⟩
     clear hK K)
    refine Pw.eql 37 _ _ _ rfl rfl (by rfl) #[I f1, I f2] #[I f1, I f2] rfl rfl ChkK.guardF true FE.out ?_
    (try dsimp only [Act.put]); (try simp only [List.setIfInBounds_toArray, List.set_cons_zero, List.set_cons_succ])
    iterate 1
      (refine Pw.calm rfl (fun K hK => ?_)
       go_simp
       refine hK _ ?_
       clear hK K)
    (refine Pw.calm rfl (fun K hK => ?_)
     go_simp
     refine ⟨_, fun p => Row.Old.call (Wa9.awake_any _), hK _ ?_⟩
     clear hK K)
    iterate 2
      (refine Pw.calm rfl (fun K hK => ?_)
       go_simp
       refine hK _ ?_
       clear hK K)
    refine Pw.nil ?_
    intro u9 hb9
    have E := Lib.hid (E0.out.trans (hb9.mono E0.out.size))
    clear hb9 hne P0
    go_wp2
    go_ret
    exact ⟨rfl, E.out⟩

/-! ### the row's step -/
set_option maxRecDepth 100000 in
theorem lifted (os : Os) (started : os.Started) (H : Type) (enc : TypeId × Value → H) :
    ReturnsInHanded {} Tryz.checked os 5 .any (Rows.checkRestSpec.pre6 enc Tryz.prog Tryz.f5 Rows.checkRestRow.domain false) (Rows.checkRestSpec.post enc Tryz.prog Tryz.f5 false true false false) := by
  refine returnsInHanded_of_change (C := Tryz.checked) own started (by kernel_rfl) Tryz.func5
    (ChangeSpec.witness6 (enc := enc) (C := Tryz.checked) false ⟨#[], #[.slice none 0 0, .agg (Tab.Det.cells ⟨0, 0, 0, 0, 0, 0, 0⟩).toArray, .agg (Tab.Rl.cells ⟨0, 0, 0, 0, 0, 0, 0, 0, 0, 0, 0⟩).toArray, .agg (Tab.Bs.cells ⟨0, 0⟩).toArray, .int .i64 0], []⟩ 8 (by kernel_rfl) (by kernel_rfl) (by kernel_rfl) (by kernel_rfl)) ?_
  intro W base args ds gs before hval0 hW hcnd _
  have hval : ∀ (j : Nat) t v, Tryz.f5.params[j]? = some t → args[j]? = some v → Value.okWide Tryz.prog W .any base t v := hval0
  have hW' := hW
  obtain ⟨p, q, hA0, hV, rfl, hfz, hnd⟩ := hW
  have hA : DataW.TrodAll enc Tryz.prog W 0 (fun _ => true) true Tryz.f5.params.toList args.toList ds p := hA0
  rw [Tryz.params5] at hA hval
  obtain ⟨v0, vs0, d0, ds0, p0, q0, hargs, rfl, rfl, h0, r0⟩ := trodAll_cons hA
  obtain ⟨v1, vs1, d1, ds1, p1, q1, rfl, rfl, rfl, h1, r1⟩ := trodAll_cons r0
  obtain ⟨v2, vs2, d2, ds2, p2, q2, rfl, rfl, rfl, h2, r2⟩ := trodAll_cons r1
  obtain ⟨v3, vs3, d3, ds3, p3, q3, rfl, rfl, rfl, h3, r3⟩ := trodAll_cons r2
  obtain ⟨v4, vs4, d4, ds4, p4, q4, rfl, rfl, rfl, h4, r4⟩ := trodAll_cons r3
  obtain ⟨rfl, rfl, rfl⟩ := trodAll_nil r4
  obtain rfl : args = #[v0, v1, v2, v3, v4] := by cases args; simp_all
  obtain ⟨rfl, rfl⟩ := trodVars_none hV
  obtain ⟨a0, len0, cap0, rfl⟩ := okWide_slice Tryz.underlying22 (hval 0 22 v0 rfl rfl)
  have k0 := h0
  have lt0 : ∀ x ∈ p0, x.block < W.heap.size := by obtain ⟨m, hm⟩ := k0; exact DataW.trod_lt m _ _ _ hm
  obtain ⟨z0, w0⟩ : ∃ zs, IsRow .i64 W a0 len0 cap0 zs := by
    obtain ⟨fuel, hf⟩ := h0
    rcases open_ints Tryz.underlying22 Tryz.underlying3 (by kernel_rfl) hf with ⟨hcs, _⟩ | ⟨x, l, c, zs, hcs, _, hl, hm, hz, _, hcell, hwz⟩
    · simp [Value.cells] at hcs
      obtain ⟨rfl, rfl, rfl⟩ := hcs
      exact ⟨[], .inl ⟨rfl, rfl, rfl, rfl⟩⟩
    · simp [Value.cells] at hcs
      obtain ⟨rfl, rfl, rfl⟩ := hcs
      exact ⟨zs, .inr ⟨_, rfl, hl, hm, by simpa using hz, hcell, hwz⟩⟩
  obtain ⟨c1, rfl, _⟩ := okWide_struct Tryz.underlying45 (hval 1 45 v1 rfl rfl)
  have k1 := h1
  have lt1 : ∀ x ∈ p1, x.block < W.heap.size := by obtain ⟨m, hm⟩ := k1; exact DataW.trod_lt m _ _ _ hm
  obtain ⟨x1, e1⟩ : ∃ x : Tab.Det, c1 = x.cells.toArray := by
    obtain ⟨fuel, hf⟩ := h1
    obtain ⟨x, e⟩ := TabArg.det_el (Flat.trod_flat 4 _ _ TabArg.flD fuel _ _ hf)
    exact ⟨x, by rw [← e]; simp [Value.cells]⟩
  subst e1
  obtain ⟨c2, rfl, _⟩ := okWide_struct Tryz.underlying47 (hval 2 47 v2 rfl rfl)
  have k2 := h2
  have lt2 : ∀ x ∈ p2, x.block < W.heap.size := by obtain ⟨m, hm⟩ := k2; exact DataW.trod_lt m _ _ _ hm
  obtain ⟨x2, e2⟩ : ∃ x : Tab.Rl, c2 = x.cells.toArray := by
    obtain ⟨fuel, hf⟩ := h2
    obtain ⟨x, e⟩ := TabArg.rl_el (Flat.trod_flat 4 _ _ TabArg.flR fuel _ _ hf)
    exact ⟨x, by rw [← e]; simp [Value.cells]⟩
  subst e2
  obtain ⟨c3, rfl, _⟩ := okWide_struct Tryz.underlying49 (hval 3 49 v3 rfl rfl)
  have k3 := h3
  have lt3 : ∀ x ∈ p3, x.block < W.heap.size := by obtain ⟨m, hm⟩ := k3; exact DataW.trod_lt m _ _ _ hm
  obtain ⟨x3, e3⟩ : ∃ x : Tab.Bs, c3 = x.cells.toArray := by
    obtain ⟨fuel, hf⟩ := h3
    obtain ⟨x, e⟩ := TabArg.bs_el (Flat.trod_flat 4 _ _ TabArg.flB fuel _ _ hf)
    exact ⟨x, by rw [← e]; simp [Value.cells]⟩
  subst e3
  obtain ⟨a4, rfl, rfl, rfl, w4⟩ := open_int Tryz.underlying3 (hval 4 3 v4 rfl rfl) h4
  clear hA0 hval0
  refine (walk a0 len0 cap0 z0 x1 x2 x3 a4 W w0 w4).mono fun e W' ⟨he, bel⟩ => ?_
  subst he
  exact ⟨_, rfl, _, _, _, [], _, [], hW', trodAll_mk1 (shut_bool Tryz.underlying4 _), (trodAll_cons_mk (Below.trod laidOut (by kernel_rfl) (of_decide_eq_true (by kernel_rfl)) k0 bel lt0) (trodAll_cons_mk (Below.trod laidOut (by kernel_rfl) (of_decide_eq_true (by kernel_rfl)) k1 bel lt1) (trodAll_cons_mk (Below.trod laidOut (by kernel_rfl) (of_decide_eq_true (by kernel_rfl)) k2 bel lt2) (trodAll_cons_mk (Below.trod laidOut (by kernel_rfl) (of_decide_eq_true (by kernel_rfl)) k3 bel lt3) (trodAll_cons_mk (shut_int Tryz.underlying3 w4) trodAll_mk0))))), rfl, bel.frame _, fun h => by cases h⟩

theorem over : Rows.checkRestRow.holds Tryz.pinned (OpenSpec.ofChange Rows.checkRestSpec) :=
  OpenClaim.holds_of_wide 5 Tryz.f5 rfl rfl rfl rfl rfl rfl rfl ⟨rfl, rfl, rfl, rfl, rfl⟩ rfl rfl rfl rfl rfl (by kernel_rfl) Tryz.func5 (by kernel_rfl)
    (of_decide_eq_true (by kernel_rfl)) (by unfold Func.isWrapper; first | (rw [if_pos (by decide +kernel)]; kernel_rfl) | (rw [if_neg (by decide +kernel)]; exact ⟨rfl, rfl⟩))
    (fun os started H enc _ => lifted os started H enc)

/-- the statement -/
theorem proved : Rows.CheckRestSaid :=
  over
#print axioms proved
end Go.Proofs.YtjolhoilcibdfaaGreat.checkRest
