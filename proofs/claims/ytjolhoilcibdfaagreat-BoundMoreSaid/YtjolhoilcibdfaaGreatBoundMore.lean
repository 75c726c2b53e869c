/- BoundMore returns true at any numbers: with a longer green and a longer red of one phase nobody waits less, no entry takes less. No condition. -/
import Derived.Test.YtjolhoilcibdfaaGreatRows
import Derived.Test.YtjolhoilcibdfaaGreatPart07
import Derived.Test.YtjolhoilcibdfaaGreatPart11
import Derived.Test.YtjolhoilcibdfaaGreatPart12
import Derived.Test.YtjolhoilcibdfaaGreatPart09
import Derived.Test.YtjolhoilcibdfaaGreatPart03
import Derived.Deep.Cut
import Derived.LoopTactic
import Derived.WalkKit
import Derived.WalkLawsBesides
import Derived.ProofKit
import Derived.OpenShut
import Derived.ShutString
import Derived.ChangeOld
import Derived.Below
set_option linter.unusedVariables false
set_option linter.unusedSimpArgs false
set_option linter.unusedSectionVars false
namespace Go.Proofs.YtjolhoilcibdfaaGreat.boundMore
open Go.ChangeShapes Go.WideShapes Go.ChangeAt Go.RowKit
open Tab PlaceM PlanM OnS GenT GenG WaitS FreeS EntryS OverS PassS ServeS BdQ
open May (infoT)
set_option linter.unusedVariables false
set_option linter.unusedSimpArgs false

theorem own : ownKnob Tryz.prog.godebug = none := by kernel_rfl
theorem laidOut : laidOutB Tryz.prog = true := by kernel_rfl

/-- WHAT THE WALK IS TOLD OF A SLICE OF INTEGERS THAT CAME IN: it is nil; or it leads to a row of 'cap' cells, the numbers 'zs' (the first 'len' are its elements, the rest its spare room), each fitting its kind. -/
def IsRow (k : IntKind) (w : World) (a : Option Addr) (len cap : Nat) (zs : List Int) : Prop :=
  (a = none ∧ len = 0 ∧ cap = 0 ∧ zs = []) ∨
  ∃ x, a = some x ∧ len ≤ cap ∧ cap ≤ maxLen ∧ zs.length = cap ∧ (∀ i, i < zs.length → w.cell? (x.add i) = some (.int k (zs.getD i 0))) ∧ ∀ n ∈ zs, (Lit.int k n).wf = true

theorem isRow_int {w : World} {a : Option Addr} {len cap : Nat} {zs : List Int} (h : IsRow .i64 w a len cap zs) : (zs.take len).length = len ∧ Tab.IntRow w ⟨a, cap⟩ (zs.take len) := by
  rcases h with ⟨rfl, rfl, rfl, rfl⟩ | ⟨x, rfl, h1, h2, h3, h4, _⟩
  · exact ⟨rfl, .inl ⟨rfl, rfl, rfl⟩⟩
  · have hl : (zs.take len).length = len := by rw [List.length_take]; omega
    refine ⟨hl, .inr ⟨x, rfl, by rw [hl]; exact h1, h2, fun i v hv j u hu => ?_⟩⟩
    have hi : i < len := by have := (List.getElem?_eq_some_iff.1 hv).1; omega
    match j, hu with
    | 0, hu =>
      simp at hu
      subst hu
      rw [List.getElem?_take, if_pos hi] at hv
      have := h4 i (by omega)
      rw [List.getD_eq_getElem?_getD, hv] at this
      rw [Nat.mul_one, Tab.add_two, Nat.add_zero]
      exact this
    | j + 1, hu => simp at hu
def phase_ok (u : Ph) : Prop := 0 ≤ u.top ∧ u.top ≤ 9999 ∧ 0 ≤ u.red ∧ u.red ≤ 9999
theorem phase_of (L : List Int) {k : Nat} {u : Ph} (h : (genTab L).phases[k]? = some u) : phase_ok u := by
  have h1 := (ChkX.in_ranges (gen_may L)).ph u (List.mem_of_getElem? h)
  unfold May.Ph.may at h1
  rw [Bool.and_eq_true, allIn_iff] at h1
  have h2 := h1.1 u.top (by simp)
  have h3 := h1.1 u.red (by simp)
  exact ⟨h2.1, h2.2, h3.1, h3.2⟩

/-! ### the walk -/
set_option maxRecDepth 10000 in
set_option maxHeartbeats 8000000 in
theorem walk (a0 : Option Addr) (len0 cap0 : Nat) (z0 : List Int) (a1 : Int) (a2 : Int) (a3 : Int) (w : World) (w0 : IsRow .i64 w a0 len0 cap0 z0) (w1 : (Lit.int .i64 a1).wf = true) (w2 : (Lit.int .i64 a2).wf = true) (w3 : (Lit.int .i64 a3).wf = true) :
    Calls Tryz.prog 11 #[.slice a0 len0 cap0, .int .i64 a1, .int .i64 a2, .int .i64 a3] w fun e w' => e = .returned (.bool true) ∧ Below w.heap.size w w' := by
  obtain ⟨hlen, hrow⟩ := isRow_int w0
  obtain ⟨L, hL⟩ : ∃ L, L = z0.take len0 := ⟨_, rfl⟩
  rw [← hL] at hlen hrow
  clear hL w0
  subst hlen
  have hz := (zero_of_info GenT.infoTz).1
  have hZs : (Clone.zTab.cells Clone.zHd).length = 131 := rfl
  generalize hZ : GenT.zTab.cells GenT.zHd = Z at *
  have ZS : Z.toArray.size = 131 := by rw [← hZ]; rfl
  clear hZ hZs
  have G8 := Lib.hid (GenT.genTab_few L)
  have GL := Lib.hid (BdX.gen_lo L)
  have A0 : Hid (Below w.heap.size w w) := Lib.hid (Below.refl _ _)
  go_enter Tryz.func11, Tryz.ntmps11
  go_wp2_with fail
  refine (GenT.table_any a0 cap0 L w hrow).mono ?_
  rintro e u0 ⟨hd, rfl, ht, hb⟩
  have CS := GenT.cells_cut hd ht.ph ht.cf ht.fl
  have ON := (cells_ok ht).one
  have HT0 := Lib.hid ht
  have B0 : Hid (Below w.heap.size w u0) := Lib.hid (A0.out.trans (hb.mono A0.out.size))
  have IA : Hid ((Tryz.prog.info? 32).map (·.size) = some ((genTab L).cells hd).length) := Lib.hid (by rw [CS]; exact infoT)
  clear hb ht
  generalize hc : (genTab L).cells hd = c at *
  have HC := Lib.hid hc
  clear hc
  go_upto_region 2 with (refine Row.wpList_store_new rfl 32 _ _ rfl u0 Z.toArray c.toArray rfl rfl rfl (by rw [List.size_toArray]; exact IA.out) (by rw [ZS, List.size_toArray, CS]) ON ?_)
  have hb2 : Hid (Below u0.heap.size u0 (u0.alloc (.cells c.toArray 32))) := Lib.hid ((Below.refl _ _).alloc (Nat.le_refl _) _)
  have KX : Hid (Kx.Kx u0 u0.heap.size hd (genTab L) (u0.alloc (.cells c.toArray 32))) := Lib.hid ⟨hb2.out, Nat.le_refl _, by rw [HC.out]; exact heap_alloc_new u0 _, HT0.out⟩
  generalize u0.alloc (.cells c.toArray 32) = u at hb2 KX ⊢
  have KT0 := KX
  clear KX
  have hb3 : Below u.heap.size u (u.alloc (.cells c.toArray 32)) := (Below.refl _ _).alloc (Nat.le_refl _) _
  have LT0 := Lib.hid (show Lies u ⟨u0.heap.size, 0, none⟩ c by have := KT0.out.lies; rwa [HC.out] at this)
  have KT : Hid (Kx.Kx u0 u0.heap.size hd (genTab L) (u.alloc (.cells c.toArray 32))) := Lib.hid (KT0.out.step hb3)
  have KU : Hid (Kx.Kx u0 u.heap.size hd (genTab L) (u.alloc (.cells c.toArray 32))) := Lib.hid (by have := Ky.copy KT0.out; rwa [HC.out] at this)
  have NE : Hid (u.heap.size ≠ u0.heap.size) := Lib.hid (by have := KT0.out.size; omega)
  go_upto_region 3 with (first | (refine Row.wpList_load_g 32 _ rfl (by first | rfl | go_simp) ⟨u0.heap.size, 0, none⟩ rfl c _ LT0.out Tryz.underlying32 rfl IA.out ?_) | (refine Row.wpList_store_new rfl 32 _ _ rfl u Z.toArray c.toArray rfl rfl rfl (by rw [List.size_toArray]; exact IA.out) (by rw [ZS, List.size_toArray, CS]) ON ?_))
  generalize u.alloc (.cells c.toArray 32) = u2 at KT KU ⊢
  generalize u.heap.size = ub at KU NE ⊢
  generalize u0.heap.size = tb at KT NE ⊢
  clear hb3 LT0 KT0 hb2
  clear HT0 hrow hz ZS A0
  go_wp2_with fail
  refine (RefS.place_any a1 8 _ (by decide) (by decide)).mono ?_
  rintro e w' ⟨rfl, rfl⟩
  obtain ⟨k, ek, k8⟩ : ∃ k : Nat, a1 % 8 = (k : Int) ∧ k < 8 := ⟨(a1 % 8).toNat, by omega, by omega⟩
  rw [ek]
  clear ek
  clear w1
  obtain ⟨u, hu⟩ : ∃ x, (genTab L).phases[k]? = some x := ⟨_, List.getElem?_eq_getElem (by rw [GL.out.h8]; exact k8)⟩
  have hph : phase_ok u := phase_of L hu
  have b1 := hph.1
  have b2 := hph.2.1
  have b3 := hph.2.2.1
  have b4 := hph.2.2.2
  clear hph
  have HU := Lib.hid hu
  clear hu
  have ki : (k : Int) < 8 := by omega
  go_upto_region 4 with fail
  have hm0 := Int.emod_nonneg a2 (show (1000 : Int) ≠ 0 by omega)
  have hm1 := Int.emod_lt_of_pos a2 (show (0 : Int) < 1000 by omega)
  have PL : Hid (∀ W, Calls Tryz.prog 13 #[.int .i64 a2, .int .i64 1000] W fun e w' => e = .returned (.int .i64 (a2 % 1000)) ∧ w' = W) := Lib.hid (fun W => (RefS.place_any a2 1000 W (by decide) (by decide)).mono (by rintro e w' ⟨rfl, rfl⟩; exact ⟨rfl, rfl⟩))
  generalize a2 % 1000 = d4 at hm0 hm1 PL
  refine QB.region_tail 12 (by kernel_rfl) (by kernel_rfl) ?_
  have KT1 := Lib.hid (KT.out.step (Below.refl _ _).drew)
  have KU1 := Lib.hid (KU.out.step (Below.refl _ _).drew)
  generalize World.drew u2 = v at KT1 KU1 ⊢
  clear KT KU
  have cc : v.cell? ⟨ub, k * 13 + 4, none⟩ = some (I u.top) := by rw [Ky.cell_at KU1.out HU.out (by omega)]; rfl
  have ff : v.frozen? ⟨ub, k * 13 + 4, none⟩ = false := KU1.out.frozen _
  have ew : IntKind.i64.wrap (u.top + d4) = u.top + d4 := by rw [IntKind.wrap_i64]; omega
  simp only [List.take_succ_cons, List.take_zero, List.drop_succ_cons, List.drop_zero]
  repeat still_step
  still_call (PL.out _)
  repeat still_step
  refine wpStill_nil ?_
  go_upto_region 5 with fail
  have KT : Hid (Kx.Kx u0 tb hd (genTab L) (v.setCell ⟨ub, k * 13 + 4, none⟩ (I (u.top + d4)))) := Lib.hid (Ky.other KT1.out NE.out KU1.out.tbB _ _)
  have KU := Lib.hid (Ky.put KU1.out HU.out (j := 4) (by omega) (v := I (u.top + d4)) (x := { u with top := u.top + d4 }) rfl)
  clear KT1 KU1 PL cc ff ew
  generalize v.setCell ⟨ub, k * 13 + 4, none⟩ (I (u.top + d4)) = u3 at KT KU ⊢
  have GE := Lib.hid (hm0)
  have HU2 : Hid (({ genTab L with phases := (genTab L).phases.set k { u with top := u.top + d4 } } : Tab).phases[k]? = some { u with top := u.top + d4 }) := Lib.hid (List.getElem?_set_self (by rw [GL.out.h8]; exact k8))
  clear hm0 hm1
  have hm0 := Int.emod_nonneg a3 (show (100 : Int) ≠ 0 by omega)
  have hm1 := Int.emod_lt_of_pos a3 (show (0 : Int) < 100 by omega)
  have PL : Hid (∀ W, Calls Tryz.prog 13 #[.int .i64 a3, .int .i64 100] W fun e w' => e = .returned (.int .i64 (a3 % 100)) ∧ w' = W) := Lib.hid (fun W => (RefS.place_any a3 100 W (by decide) (by decide)).mono (by rintro e w' ⟨rfl, rfl⟩; exact ⟨rfl, rfl⟩))
  generalize a3 % 100 = d7 at hm0 hm1 PL
  refine QB.region_tail 12 (by kernel_rfl) (by kernel_rfl) ?_
  have KT1 := Lib.hid (KT.out.step (Below.refl _ _).drew)
  have KU1 := Lib.hid (KU.out.step (Below.refl _ _).drew)
  generalize World.drew u3 = v at KT1 KU1 ⊢
  clear KT KU
  have cc : v.cell? ⟨ub, k * 13 + 7, none⟩ = some (I u.red) := by rw [Ky.cell_at KU1.out HU2.out (by omega)]; rfl
  have ff : v.frozen? ⟨ub, k * 13 + 7, none⟩ = false := KU1.out.frozen _
  have ew : IntKind.i64.wrap (u.red + d7) = u.red + d7 := by rw [IntKind.wrap_i64]; omega
  simp only [List.take_succ_cons, List.take_zero, List.drop_succ_cons, List.drop_zero]
  repeat still_step
  still_call (PL.out _)
  repeat still_step
  refine wpStill_nil ?_
  go_upto_region 6 with fail
  have KT : Hid (Kx.Kx u0 tb hd (genTab L) (v.setCell ⟨ub, k * 13 + 7, none⟩ (I (u.red + d7)))) := Lib.hid (Ky.other KT1.out NE.out KU1.out.tbB _ _)
  have KU := Lib.hid (Ky.put KU1.out HU2.out (j := 7) (by omega) (v := I (u.red + d7)) (x := { u with top := u.top + d4, red := u.red + d7 }) rfl)
  clear KT1 KU1 PL cc ff ew
  generalize v.setCell ⟨ub, k * 13 + 7, none⟩ (I (u.red + d7)) = u4 at KT KU ⊢
  have KU2 : Hid (Kx.Kx u0 ub hd { genTab L with phases := (genTab L).phases.set k { u with top := u.top + d4, red := u.red + d7 } } u4) := Lib.hid (by have := KU.out; rw [List.set_set] at this; exact this)
  have G : Hid (Ge (genTab L) { genTab L with phases := (genTab L).phases.set k { u with top := u.top + d4, red := u.red + d7 } }) := Lib.hid (ge_set GL.out.h8 HU.out GE.out hm0)
  have SM1 : Hid (Few { genTab L with phases := (genTab L).phases.set k { u with top := u.top + d4, red := u.red + d7 } }) := Lib.hid ⟨G8.out.groups, G8.out.rows⟩
  clear KU GE HU2 HU hm0 hm1 b1 b2 b3 b4 k8 ki
  generalize ({ genTab L with phases := (genTab L).phases.set k { u with top := u.top + d4, red := u.red + d7 } } : Tab) = U at KU2 G SM1
  generalize genTab L = T at KT KU2 G HC G8 GL IA CS ON
  have C0 : Hid (Below w.heap.size w u4) := Lib.hid (B0.out.trans (KT.out.bel.mono B0.out.size))
  obtain ⟨cu, hcu⟩ : ∃ x, x = U.cells hd := ⟨_, rfl⟩
  have LT : Hid (∀ W, Below u4.heap.size u4 W → Lies W ⟨tb, 0, none⟩ c) := Lib.hid (fun W hb => by have := (KT.out.step hb).lies; rwa [HC.out] at this)
  have LU : Hid (∀ W, Below u4.heap.size u4 W → Lies W ⟨ub, 0, none⟩ cu) := Lib.hid (fun W hb => by have := (KU2.out.step hb).lies; rwa [← hcu] at this)
  have IU : Hid ((Tryz.prog.info? 32).map (·.size) = some cu.length) := Lib.hid (by rw [hcu, cells_cut hd KU2.out.tab.ph KU2.out.tab.cf KU2.out.tab.fl]; exact infoT)
  have WT : Hid (∀ (q : Nat) W, Below u4.heap.size u4 W → Calls Tryz.prog 35 #[.agg c.toArray, .int .i64 q] W fun e w' => e = .returned (.int .i64 (waitS T (q : Nat))) ∧ Below W.heap.size W w') := Lib.hid (fun q W hb => by rw [← HC.out]; exact BdW.pwait_any T hd q W (KT.out.step hb).isTab G8.out)
  have WU : Hid (∀ (q : Nat) W, Below u4.heap.size u4 W → Calls Tryz.prog 35 #[.agg cu.toArray, .int .i64 q] W fun e w' => e = .returned (.int .i64 (waitS U (q : Nat))) ∧ Below W.heap.size W w') := Lib.hid (fun q W hb => by rw [hcu]; exact BdW.pwait_any U hd q W (KU2.out.step hb).isTab SM1.out)
  have ET : Hid (∀ (q : Nat) W, Below u4.heap.size u4 W → Calls Tryz.prog 31 #[.agg c.toArray, .int .i64 q] W fun e w' => e = .returned (.int .i64 (entryS T (q : Nat))) ∧ Below W.heap.size W w') := Lib.hid (fun q W hb => by rw [← HC.out]; exact BdE.pentry_any T hd q W (KT.out.step hb).isTab)
  have EU : Hid (∀ (q : Nat) W, Below u4.heap.size u4 W → Calls Tryz.prog 31 #[.agg cu.toArray, .int .i64 q] W fun e w' => e = .returned (.int .i64 (entryS U (q : Nat))) ∧ Below W.heap.size W w') := Lib.hid (fun q W hb => by rw [hcu]; exact BdE.pentry_any U hd q W (KU2.out.step hb).isTab)
  have OT : Hid (∀ W, Below u4.heap.size u4 W → Calls Tryz.prog 33 #[.agg c.toArray] W fun e w' => e = .returned (.int .i64 (overS T)) ∧ Below W.heap.size W w') := Lib.hid (fun W hb => by rw [← HC.out]; exact BdO.pover_any T hd W (KT.out.step hb).isTab)
  have OU : Hid (∀ W, Below u4.heap.size u4 W → Calls Tryz.prog 33 #[.agg cu.toArray] W fun e w' => e = .returned (.int .i64 (overS U)) ∧ Below W.heap.size W w') := Lib.hid (fun W hb => by rw [hcu]; exact BdO.pover_any U hd W (KU2.out.step hb).isTab)
  have PT : Hid (∀ W, Below u4.heap.size u4 W → Calls Tryz.prog 27 #[.agg c.toArray, .int .i64 0] W fun e w' => e = .returned (.int .i64 (passS T 0)) ∧ Below W.heap.size W w') := Lib.hid (fun W hb => by rw [← HC.out]; exact BdP.ppass_any T hd 0 W (KT.out.step hb).isTab G8.out)
  have PU : Hid (∀ W, Below u4.heap.size u4 W → Calls Tryz.prog 27 #[.agg cu.toArray, .int .i64 0] W fun e w' => e = .returned (.int .i64 (passS U 0)) ∧ Below W.heap.size W w') := Lib.hid (fun W hb => by rw [hcu]; exact BdP.ppass_any U hd 0 W (KU2.out.step hb).isTab SM1.out)
  have gW : Hid (∀ q : Nat, decide (waitS U (q : Nat) < waitS T (q : Nat)) = false) := Lib.hid (fun q => by have := wait_ge G.out (q : Nat); exact decide_eq_false (by omega))
  have gE : Hid (∀ q : Nat, decide (entryS U (q : Nat) < entryS T (q : Nat)) = false) := Lib.hid (fun q => by have := entry_ge G.out (q : Nat); exact decide_eq_false (by omega))
  have gO : Hid (decide (overS U ≥ overS T) = true) := Lib.hid (decide_eq_true (over_ge G.out))
  have gP : Hid (decide (passS U 0 ≥ passS T 0) = true) := Lib.hid (decide_eq_true (pass_ge G.out 0))
  clear KT KU2 G HC G8 GL CS ON SM1 hcu B0
  generalize waitS T = wT at *
  generalize waitS U = wU at *
  generalize entryS T = eT at *
  generalize entryS U = eU at *
  generalize overS T = oT at *
  generalize overS U = oU at *
  generalize passS T 0 = pT at *
  generalize passS U 0 = pU at *
  go_wp2_with fail
  go_loopw [12] (fun i wr => ∃ q : Nat, q ≤ 8 ∧ i = .int .i64 q ∧ Below u4.heap.size u4 wr) (fun i _ => 8 - (intOf i).toNat)
  case atStart => exact ⟨0, by omega, rfl, Below.refl _ _⟩
  case round =>
    obtain ⟨q, hq, rfl, hB⟩ := hrel
    have HB := Lib.hid hB
    clear hB
    by_cases hlt : q < 8
    · go_upto_region 9 with fail
      have gWq := Lib.hid (gW.out q)
      have gEq := Lib.hid (gE.out q)
      have WTq := Lib.hid (WT.out q)
      have WUq := Lib.hid (WU.out q)
      have ETq := Lib.hid (ET.out q)
      have EUq := Lib.hid (EU.out q)
      generalize wT q = w1 at gWq WTq
      generalize wU q = w2 at gWq WUq
      generalize eT q = e1 at gEq ETq
      generalize eU q = e2 at gEq EUq
      have hne : Nonempty (Ph.S (Row.Old wr)) := ⟨⟨0, wr, Below.refl _ _⟩⟩
      have P0 : Hid (∀ p : Ph.S (Row.Old wr), Below u4.heap.size u4 p.world) := Lib.hid (fun p => HB.out.trans (p.is.mono HB.out.size))
      refine Pw.region (Row.Old wr) [] (by kernel_rfl) (by kernel_rfl) (Row.Old.drew _) ?_
      refine Pw.load rfl (by rfl) 32 _ rfl ⟨ub, 0, none⟩ rfl cu _ (fun p => LU.out _ (P0.out p)) Tryz.underlying32 rfl IU.out ?_
      (try dsimp only [Act.put]); (try simp only [List.setIfInBounds_toArray, List.set_cons_zero, List.set_cons_succ])
      iterate 1
        (refine Pw.calm rfl (fun K hK => ?_)
         go_simp
         refine hK _ ?_
         clear hK K)
      (refine Pw.calm rfl (fun K hK => ?_)
       go_simp
       refine ⟨_, fun p => Row.Old.call (WUq.out _ (P0.out p)), hK _ ?_⟩
       clear hK K)
      refine Pw.load rfl (by rfl) 32 _ rfl ⟨tb, 0, none⟩ rfl c _ (fun p => LT.out _ (P0.out p)) Tryz.underlying32 rfl IA.out ?_
      (try dsimp only [Act.put]); (try simp only [List.setIfInBounds_toArray, List.set_cons_zero, List.set_cons_succ])
      iterate 1
        (refine Pw.calm rfl (fun K hK => ?_)
         go_simp
         refine hK _ ?_
         clear hK K)
      (refine Pw.calm rfl (fun K hK => ?_)
       go_simp
       refine ⟨_, fun p => Row.Old.call (WTq.out _ (P0.out p)), hK _ ?_⟩
       clear hK K)
      (refine Pw.calm rfl (fun K hK => ?_)
       go_simp
       try simp only [gWq.out]
       refine hK _ ?_
       clear hK K)
      iterate 1
        (refine Pw.calm rfl (fun K hK => ?_)
         go_simp
         refine hK _ ?_
         clear hK K)
      refine Pw.load rfl (by rfl) 32 _ rfl ⟨ub, 0, none⟩ rfl cu _ (fun p => LU.out _ (P0.out p)) Tryz.underlying32 rfl IU.out ?_
      (try dsimp only [Act.put]); (try simp only [List.setIfInBounds_toArray, List.set_cons_zero, List.set_cons_succ])
      iterate 1
        (refine Pw.calm rfl (fun K hK => ?_)
         go_simp
         refine hK _ ?_
         clear hK K)
      (refine Pw.calm rfl (fun K hK => ?_)
       go_simp
       refine ⟨_, fun p => Row.Old.call (EUq.out _ (P0.out p)), hK _ ?_⟩
       clear hK K)
      refine Pw.load rfl (by rfl) 32 _ rfl ⟨tb, 0, none⟩ rfl c _ (fun p => LT.out _ (P0.out p)) Tryz.underlying32 rfl IA.out ?_
      (try dsimp only [Act.put]); (try simp only [List.setIfInBounds_toArray, List.set_cons_zero, List.set_cons_succ])
      iterate 1
        (refine Pw.calm rfl (fun K hK => ?_)
         go_simp
         refine hK _ ?_
         clear hK K)
      (refine Pw.calm rfl (fun K hK => ?_)
       go_simp
       refine ⟨_, fun p => Row.Old.call (ETq.out _ (P0.out p)), hK _ ?_⟩
       clear hK K)
      (refine Pw.calm rfl (fun K hK => ?_)
       go_simp
       try simp only [gEq.out]
       refine hK _ ?_
       clear hK K)
      iterate 1
        (refine Pw.calm rfl (fun K hK => ?_)
         go_simp
         refine hK _ ?_
         clear hK K)
      refine Pw.nil ?_
      intro u9 hb9
      have HB9 := Lib.hid (HB.out.trans (hb9.mono HB.out.size))
      clear hb9 hne P0 gWq gEq WTq WUq ETq EUq
      go_wp2
      go_roundw
      case rel => exact ⟨q + 1, by omega, by go_num, HB9.out⟩
      case measure => simp [intOf]; omega
    · obtain rfl : q = 8 := by omega
      rw [show ((8 : Nat) : Int) = (8 : Int) from rfl]
      clear hq hlt
      go_upto_region 11 with fail
      have hne : Nonempty (Ph.S (Row.Old wr)) := ⟨⟨0, wr, Below.refl _ _⟩⟩
      have P0 : Hid (∀ p : Ph.S (Row.Old wr), Below u4.heap.size u4 p.world) := Lib.hid (fun p => HB.out.trans (p.is.mono HB.out.size))
      refine Pw.region (Row.Old wr) [] (by kernel_rfl) (by kernel_rfl) (Row.Old.drew _) ?_
      refine Pw.load rfl (by rfl) 32 _ rfl ⟨ub, 0, none⟩ rfl cu _ (fun p => LU.out _ (P0.out p)) Tryz.underlying32 rfl IU.out ?_
      (try dsimp only [Act.put]); (try simp only [List.setIfInBounds_toArray, List.set_cons_zero, List.set_cons_succ])
      (refine Pw.calm rfl (fun K hK => ?_)
       go_simp
       refine ⟨_, fun p => Row.Old.call (OU.out _ (P0.out p)), hK _ ?_⟩
       clear hK K)
      refine Pw.load rfl (by rfl) 32 _ rfl ⟨tb, 0, none⟩ rfl c _ (fun p => LT.out _ (P0.out p)) Tryz.underlying32 rfl IA.out ?_
      (try dsimp only [Act.put]); (try simp only [List.setIfInBounds_toArray, List.set_cons_zero, List.set_cons_succ])
      (refine Pw.calm rfl (fun K hK => ?_)
       go_simp
       refine ⟨_, fun p => Row.Old.call (OT.out _ (P0.out p)), hK _ ?_⟩
       clear hK K)
      (refine Pw.calm rfl (fun K hK => ?_)
       go_simp
       try simp only [gO.out]
       refine hK _ ?_
       clear hK K)
      iterate 1
        (refine Pw.calm rfl (fun K hK => ?_)
         go_simp
         refine hK _ ?_
         clear hK K)
      refine Pw.load rfl (by rfl) 32 _ rfl ⟨ub, 0, none⟩ rfl cu _ (fun p => LU.out _ (P0.out p)) Tryz.underlying32 rfl IU.out ?_
      (try dsimp only [Act.put]); (try simp only [List.setIfInBounds_toArray, List.set_cons_zero, List.set_cons_succ])
      (refine Pw.calm rfl (fun K hK => ?_)
       go_simp
       refine ⟨_, fun p => Row.Old.call (PU.out _ (P0.out p)), hK _ ?_⟩
       clear hK K)
      refine Pw.load rfl (by rfl) 32 _ rfl ⟨tb, 0, none⟩ rfl c _ (fun p => LT.out _ (P0.out p)) Tryz.underlying32 rfl IA.out ?_
      (try dsimp only [Act.put]); (try simp only [List.setIfInBounds_toArray, List.set_cons_zero, List.set_cons_succ])
      (refine Pw.calm rfl (fun K hK => ?_)
       go_simp
       refine ⟨_, fun p => Row.Old.call (PT.out _ (P0.out p)), hK _ ?_⟩
       clear hK K)
      (refine Pw.calm rfl (fun K hK => ?_)
       go_simp
       try simp only [gP.out]
       refine hK _ ?_
       clear hK K)
      iterate 2
        (refine Pw.calm rfl (fun K hK => ?_)
         go_simp
         refine hK _ ?_
         clear hK K)
      (refine Pw.calm rfl (fun K hK => ?_)
       go_simp
       refine ⟨_, fun p => Row.Old.call (Wa10.awake_any _), hK _ ?_⟩
       clear hK K)
      iterate 2
        (refine Pw.calm rfl (fun K hK => ?_)
         go_simp
         refine hK _ ?_
         clear hK K)
      refine Pw.nil ?_
      intro u9 hb9
      have HB9 := Lib.hid (HB.out.trans (hb9.mono HB.out.size))
      have E := Lib.hid (C0.out.trans (HB9.out.mono C0.out.size))
      clear hb9 hne P0
      go_wp2
      go_ret
      exact ⟨rfl, E.out⟩

/-! ### the row's step -/
set_option maxRecDepth 100000 in
theorem lifted (os : Os) (started : os.Started) (H : Type) (enc : TypeId × Value → H) :
    ReturnsInHanded {} Tryz.checked os 11 .any (Rows.boundMoreSpec.pre6 enc Tryz.prog Tryz.f11 Rows.boundMoreRow.domain false) (Rows.boundMoreSpec.post enc Tryz.prog Tryz.f11 false true false false) := by
  refine returnsInHanded_of_change (C := Tryz.checked) own started (by kernel_rfl) Tryz.func11
    (ChangeSpec.witness6 (enc := enc) (C := Tryz.checked) false ⟨#[], #[.slice none 0 0, .int .i64 0, .int .i64 0, .int .i64 0], []⟩ 8 (by kernel_rfl) (by kernel_rfl) (by kernel_rfl) (by kernel_rfl)) ?_
  intro W base args ds gs before hval0 hW hcnd _
  have hval : ∀ (j : Nat) t v, Tryz.f11.params[j]? = some t → args[j]? = some v → Value.okWide Tryz.prog W .any base t v := hval0
  have hW' := hW
  obtain ⟨p, q, hA0, hV, rfl, hfz, hnd⟩ := hW
  have hA : DataW.TrodAll enc Tryz.prog W 0 (fun _ => true) true Tryz.f11.params.toList args.toList ds p := hA0
  rw [Tryz.params11] at hA hval
  obtain ⟨v0, vs0, d0, ds0, p0, q0, hargs, rfl, rfl, h0, r0⟩ := trodAll_cons hA
  obtain ⟨v1, vs1, d1, ds1, p1, q1, rfl, rfl, rfl, h1, r1⟩ := trodAll_cons r0
  obtain ⟨v2, vs2, d2, ds2, p2, q2, rfl, rfl, rfl, h2, r2⟩ := trodAll_cons r1
  obtain ⟨v3, vs3, d3, ds3, p3, q3, rfl, rfl, rfl, h3, r3⟩ := trodAll_cons r2
  obtain ⟨rfl, rfl, rfl⟩ := trodAll_nil r3
  obtain rfl : args = #[v0, v1, v2, v3] := by cases args; simp_all
  obtain ⟨rfl, rfl⟩ := trodVars_none hV
  obtain ⟨a0, len0, cap0, rfl⟩ := okWide_slice Tryz.underlying22 (hval 0 22 v0 rfl rfl)
  have k0 := h0
  have lt0 : ∀ x ∈ p0, x.block < W.heap.size := by obtain ⟨m, hm⟩ := k0; exact DataW.trod_lt m _ _ _ hm
  obtain ⟨z0, w0⟩ : ∃ zs, IsRow .i64 W a0 len0 cap0 zs := by
    obtain ⟨fuel, hf⟩ := h0
    rcases open_ints Tryz.underlying22 Tryz.underlying3 (by kernel_rfl) hf with ⟨hcs, _⟩ | ⟨x, l, c, zs, hcs, _, hl, hm, hz, _, hcell, hwz⟩
    · simp [Value.cells] at hcs
      obtain ⟨rfl, rfl, rfl⟩ := hcs
      exact ⟨[], .inl ⟨rfl, rfl, rfl, rfl⟩⟩
    · simp [Value.cells] at hcs
      obtain ⟨rfl, rfl, rfl⟩ := hcs
      exact ⟨zs, .inr ⟨_, rfl, hl, hm, by simpa using hz, hcell, hwz⟩⟩
  obtain ⟨a1, rfl, rfl, rfl, w1⟩ := open_int Tryz.underlying3 (hval 1 3 v1 rfl rfl) h1
  obtain ⟨a2, rfl, rfl, rfl, w2⟩ := open_int Tryz.underlying3 (hval 2 3 v2 rfl rfl) h2
  obtain ⟨a3, rfl, rfl, rfl, w3⟩ := open_int Tryz.underlying3 (hval 3 3 v3 rfl rfl) h3
  clear hA0 hval0
  refine (walk a0 len0 cap0 z0 a1 a2 a3 W w0 w1 w2 w3).mono fun e W' ⟨he, bel⟩ => ?_
  subst he
  exact ⟨_, rfl, _, _, _, [], _, [], hW', trodAll_mk1 (shut_bool Tryz.underlying4 _), (trodAll_cons_mk (Below.trod laidOut (by kernel_rfl) (of_decide_eq_true (by kernel_rfl)) k0 bel lt0) (trodAll_cons_mk (shut_int Tryz.underlying3 w1) (trodAll_cons_mk (shut_int Tryz.underlying3 w2) (trodAll_cons_mk (shut_int Tryz.underlying3 w3) trodAll_mk0)))), rfl, bel.frame _, fun h => by cases h⟩

theorem over : Rows.boundMoreRow.holds Tryz.pinned (OpenSpec.ofChange Rows.boundMoreSpec) :=
  OpenClaim.holds_of_wide 11 Tryz.f11 rfl rfl rfl rfl rfl rfl rfl ⟨rfl, rfl, rfl, rfl, rfl⟩ rfl rfl rfl rfl rfl (by kernel_rfl) Tryz.func11 (by kernel_rfl)
    (of_decide_eq_true (by kernel_rfl)) (by unfold Func.isWrapper; first | (rw [if_pos (by decide +kernel)]; kernel_rfl) | (rw [if_neg (by decide +kernel)]; exact ⟨rfl, rfl⟩))
    (fun os started H enc _ => lifted os started H enc)

/-- the statement -/
theorem proved : Rows.BoundMoreSaid :=
  over
#print axioms proved
end Go.Proofs.YtjolhoilcibdfaaGreat.boundMore
