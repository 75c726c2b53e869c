/- RingMay returns true at any numbers of a table, any rings, any runs and any want: who begins is wanted, has been Red for Revert and conflicts with none that is not Red, one of a ring at most; who ends is Green. No condition. -/
import Derived.Test.YtjgpljnbeolapaaRows
import Derived.Test.YtjgpljnbeolapaaPart09
import Derived.Test.YtjgpljnbeolapaaPart10
import Derived.Test.YtjgpljnbeolapaaPart06
import Derived.Test.YtjgpljnbeolapaaPart01
import Derived.Deep.Cut
import Derived.LoopTactic
import Derived.BigQuiet
import Derived.Test.YtjgpljnbeolapaaPart11
import Derived.Test.YtjgpljnbeolapaaPart04
import Derived.WalkKit
import Derived.WalkLawsBesides
import Derived.ProofKit
import Derived.OpenShut
import Derived.ShutString
import Derived.ChangeOld
import Derived.Below
set_option linter.unusedVariables false
set_option linter.unusedSimpArgs false
set_option linter.unusedSectionVars false
set_option maxHeartbeats 8000000
set_option maxRecDepth 100000
namespace Go.Proofs.Ytjgpljnbeolapaa
namespace ringMay
open Go.ChangeShapes Go.WideShapes Go.ChangeAt Go.RowKit
open Tab Ru QL Rg PlanM
open May (infoP)
open GenT (genTab)
open ChkM (cfAt)
open Clear (phAt)
open PlaceM (where_ spots Spt)
theorem own : ownKnob Try.prog.godebug = none := by kernel_rfl
theorem laidOut : laidOutB Try.prog = true := by kernel_rfl
/-- WHAT THE WALK IS TOLD OF A SLICE OF INTEGERS THAT CAME IN: it is nil; or it leads to a row of 'cap' cells, the numbers 'zs' (the first 'len' are its elements, the rest its spare room), each fitting its kind. -/
def IsRow (k : IntKind) (w : World) (a : Option Addr) (len cap : Nat) (zs : List Int) : Prop :=
  (a = none ∧ len = 0 ∧ cap = 0 ∧ zs = []) ∨
  ∃ x, a = some x ∧ len ≤ cap ∧ cap ≤ maxLen ∧ zs.length = cap ∧ (∀ i, i < zs.length → w.cell? (x.add i) = some (.int k (zs.getD i 0))) ∧ ∀ n ∈ zs, (Lit.int k n).wf = true
theorem isRow_int {w : World} {a : Option Addr} {len cap : Nat} {zs : List Int} (h : IsRow .i64 w a len cap zs) : (zs.take len).length = len ∧ Tab.IntRow w ⟨a, cap⟩ (zs.take len) := by
  rcases h with ⟨rfl, rfl, rfl, rfl⟩ | ⟨x, rfl, h1, h2, h3, h4, _⟩
  · exact ⟨rfl, .inl ⟨rfl, rfl, rfl⟩⟩
  · have hl : (zs.take len).length = len := by rw [List.length_take]; omega
    refine ⟨hl, .inr ⟨x, rfl, by rw [hl]; exact h1, h2, fun i v hv j u hu => ?_⟩⟩
    have hi : i < len := by have := (List.getElem?_eq_some_iff.1 hv).1; omega
    match j, hu with
    | 0, hu =>
      simp at hu
      subst hu
      rw [List.getElem?_take, if_pos hi] at hv
      have := h4 i (by omega)
      rw [List.getD_eq_getElem?_getD, hv] at this
      rw [Nat.mul_one, Tab.add_two, Nat.add_zero]
      exact this
    | j + 1, hu => simp at hu
/-! ### the walk -/
theorem walk (a0 : Option Addr) (len0 cap0 : Nat) (z0 : List Int) (x1 : Rg.Rg) (x2 : List Ru.Ru) (a3 : Int) (w : World) (w0 : IsRow .i64 w a0 len0 cap0 z0) (w2 : x2.length = 8) (w3 : (Lit.int .i64 a3).wf = true) :
    Calls Try.prog 4 #[.slice a0 len0 cap0, .agg x1.cells.toArray, .agg (Rg.runsC x2).toArray, .int .i64 a3] w fun e w' => e = .returned (.bool true) ∧ Below w.heap.size w w' := by
  obtain ⟨hlen, hrow⟩ := isRow_int w0
  obtain ⟨L, hL⟩ : ∃ L, L = z0.take len0 := ⟨_, rfl⟩
  rw [← hL] at hlen hrow
  clear hL w0
  subst hlen
  have hz := (zero_of_info GenT.infoTz).1
  have hZs : (Clone.zTab.cells Clone.zHd).length = 131 := rfl
  generalize hZ : GenT.zTab.cells GenT.zHd = Z at *
  have ZS : Z.toArray.size = 131 := by rw [← hZ]; rfl
  clear hZ hZs
  have FEW : Hid (PlaceM.Few (genTab L)) := Lib.hid (GenT.genTab_few L)
  have GD : Hid (Rg.Gd (genTab L)) := Lib.hid (Rg.gd_gen L)
  have hn0 := Blk.Bks.nil w
  have hn1 := hn0.alloc x1.cells.toArray 36
  have hn2 := hn1.alloc (runsC x2).toArray 46
  rw [show (w.alloc (.cells x1.cells.toArray 36)).heap.size = w.heap.size + 1 by simp] at hn2
  clear hn0 hn1
  go_enter Try.func4, Try.ntmps4
  go_upto_region 1 with fail
  generalize World.alloc (World.alloc w _) _ = v0 at hn2 ⊢
  replace hrow := RowOf.below hrow hn2.bel
  generalize hg1 : w.heap.size + 1 = gn at hn2 ⊢
  generalize hg0 : w.heap.size = gr0 at hn2 ⊢
  have H0 := Lib.hid hn2
  clear hn2 hg0 hg1
  go_wp2_with fail
  refine (GenT.table_any a0 cap0 L v0 hrow).mono ?_
  rintro e u0 ⟨hd, rfl, ht, hb⟩
  have CS := GenT.cells_cut hd ht.ph ht.cf ht.fl
  have ONE := (cells_ok ht).one
  have T8 := Lib.hid ht.ph
  have HT : Hid (∀ W, Below u0.heap.size u0 W → IsTab W hd (genTab L)) := Lib.hid (fun W hb => ht.below hb)
  have B0 := Lib.hid hb
  have IA : Hid ((Try.prog.info? 32).map (·.size) = some ((genTab L).cells hd).length) := Lib.hid (by rw [CS]; exact May.infoT)
  clear hb ht
  generalize hc : (genTab L).cells hd = c at *
  have HC := Lib.hid hc
  clear hc
  go_upto_region 2 with (refine Row.wpList_store_new rfl 32 _ _ rfl u0 Z.toArray c.toArray rfl rfl rfl (by rw [List.size_toArray]; exact IA.out) (by rw [ZS, List.size_toArray, CS]) ONE ?_)
  have hb2 : Below u0.heap.size u0 (u0.alloc (.cells c.toArray 32)) := (Below.refl _ _).alloc (Nat.le_refl _) _
  have hl : Lies (u0.alloc (.cells c.toArray 32)) ⟨u0.heap.size, 0, none⟩ c := Row.lies_new _ _ _
  have TB0 : Hid (∀ W, Below (u0.alloc (.cells c.toArray 32)).heap.size (u0.alloc (.cells c.toArray 32)) W → IsTab W hd (genTab L)) := Lib.hid (fun W hb => HT.out W (hb2.trans (hb.mono hb2.size)))
  generalize u0.alloc (.cells c.toArray 32) = u at hb2 hl TB0 ⊢
  have TB : Hid (∀ W, Below u.heap.size u W → IsTab W hd (genTab L)) := TB0
  have A0 : Hid (Below v0.heap.size v0 u) := Lib.hid (B0.out.trans (hb2.mono B0.out.size))
  have A1 : Hid (∀ W, Below u.heap.size u W → Lies W ⟨u0.heap.size, 0, none⟩ c) := Lib.hid (fun W hb => Lies.below hl hb)
  clear hb2 hl TB0 HT B0 hrow hz ZS ONE CS
  generalize u0.heap.size = tb at *
  generalize genTab L = T at *
  have H1 := Lib.hid (H0.out.step A0.out)
  have HV := Lib.hid H1.out.bel
  clear H0 A0
  have GLE : Hid (0 < T.groups.length) := Lib.hid GD.out.gl
  obtain ⟨X, hX⟩ : ∃ X, ringsS T x1 = X := ⟨_, rfl⟩
  have XG : Hid (X.g = ((x1.g % (T.groups.length : Int)).toNat : Int) ∧ 0 ≤ X.g ∧ X.g < (T.groups.length : Int)) := Lib.hid (by
    have h0 := Int.emod_nonneg x1.g (show (T.groups.length : Int) ≠ 0 by have := GLE.out; omega)
    have h1 := Int.emod_lt_of_pos x1.g (show (0 : Int) < (T.groups.length : Int) by have := GLE.out; omega)
    rw [← hX]
    exact ⟨by show x1.g % (T.groups.length : Int) = _; omega, h0, h1⟩)
  obtain ⟨S, hS⟩ : ∃ S, stepS T X x2 a3 = S := ⟨_, rfl⟩
  have M1 : Hid (∀ p : Int, SetM.has S.st p = true → SetM.has a3 p = true ∧ buB (ruAt x2 p) = false ∧ T.revert ≤ (ruAt x2 p).tm ∧ (0 ≤ p ∧ p < 8) ∧ ∀ q : Int, 0 ≤ q ∧ q < 8 → clsS T p q = true → buB (ruAt x2 q) = false) := Lib.hid (fun p hp => by rw [← hS] at hp; exact may_st GD.out XG.out.1 w2 hp)
  have M2 : Hid (∀ p q : Int, SetM.has S.st p = true → SetM.has S.st q = true → p ≠ q → PlaceM.beside T p q = true) := Lib.hid (fun p q hp hq hne => by rw [← hS] at hp hq; exact may_two GD.out XG.out.1 w2 hp hq hne)
  have M3 : Hid ((SetM.list S.st).length ≤ 2) := Lib.hid (by rw [← hS]; exact may_len GD.out XG.out.1 w2)
  have M4 : Hid (bits .andNot .i64 S.en (gS x2) = 0) := Lib.hid (by rw [← hS]; exact may_end GD.out XG.out.1 w2)
  have M5 : Hid (S.st = 0 ∨ (bits .and .i64 S.en S.st = 0 ∧ S.r.cr = false)) := Lib.hid (by rw [← hS]; exact may_sep GD.out XG.out.1 w2)
  have M6 : Hid (S.r.cr = true → S.r.g = X.g) := Lib.hid (by rw [← hS]; exact may_grp GD.out XG.out.1 w2)
  have RI : Hid (∀ W, Below u.heap.size u W → Calls Try.prog 11 #[.agg c.toArray, .agg x1.cells.toArray] W fun e w' => e = .returned (.agg X.cells.toArray) ∧ Below W.heap.size W w') := Lib.hid (fun W hb => by rw [← HC.out, ← hX]; exact rings_any T hd x1 W (TB.out W hb) GLE.out FEW.out)
  have ST : Hid (∀ W, Below u.heap.size u W → Calls Try.prog 12 #[.agg c.toArray, .agg X.cells.toArray, .agg (runsC x2).toArray, .int .i64 a3] W fun e w' => e = .returned (.tuple #[.agg S.r.cells.toArray, I S.st, I S.en]) ∧ Below W.heap.size W w') := Lib.hid (fun W hb => by rw [← HC.out, ← hS]; exact step_any T hd X x2 a3 W (TB.out W hb) w2 XG.out.2 FEW.out.groups)
  have CL : Hid (∀ p q : Nat, p < 8 → q < 8 → ∀ W, Below u.heap.size u W → Calls Try.prog 15 #[.agg c.toArray, .int .i64 p, .int .i64 q] W fun e w' => e = .returned (.bool (clsS T p q)) ∧ Below W.heap.size W w') := Lib.hid (fun p q hp hq W hb => by rw [← HC.out]; exact clash_any T hd p q hp hq W (TB.out W hb))
  have BE : Hid (∀ p q : Int, ∀ W, Below u.heap.size u W → Calls Try.prog 17 #[.agg c.toArray, .int .i64 p, .int .i64 q] W fun e w' => e = .returned (.bool (PlaceM.beside T p q)) ∧ Below W.heap.size W w') := Lib.hid (fun p q W hb => by rw [← HC.out]; exact Where.beside_any T hd p q W (TB.out W hb) FEW.out)
  have RD : Hid (∀ W, Calls Try.prog 16 #[.agg (runsC x2).toArray] W fun e w' => e = .returned (.int .i64 (thS rdB x2 : Nat)) ∧ Below W.heap.size W w') := Lib.hid (fun W => reds_any x2 w2 W)
  have GN : Hid (∀ W, Calls Try.prog 18 #[.agg (runsC x2).toArray] W fun e w' => e = .returned (.int .i64 (gS x2)) ∧ Below W.heap.size W w') := Lib.hid (fun W => rgreen_any x2 w2 W)
  have RDH : Hid (∀ q : Int, 0 ≤ q ∧ q < 8 → buB (ruAt x2 q) = false → SetM.has (thS rdB x2 : Nat) q = true) := Lib.hid (fun q hq h => by rw [rd_has w2, decide_eq_true hq, h]; rfl)
  have RC : Hid (∀ p : Nat, p < 8 → (runsC x2)[p * 12]? = some (I (ruAt x2 p).co) ∧ (runsC x2)[p * 12 + 1]? = some (I (ruAt x2 p).tm)) := Lib.hid (fun p hp => ⟨by have := runs_at w2 hp (j := 0) rfl; rwa [Nat.add_zero] at this, runs_at w2 hp (j := 1) rfl⟩)
  have RV : Hid (∀ W, Below u.heap.size u W → W.cell? ⟨tb, 119, none⟩ = some (I T.revert)) := Lib.hid (fun W hb => by
    have h := A1.out W hb 119 (I T.revert) (by rw [← HC.out]; exact tab_rv (TB.out W hb))
    rwa [Addr.add_mid, Nat.zero_add] at h)
  have IR : Hid ((Try.prog.info? 46).map (·.size) = some (runsC x2).length) := Lib.hid (by rw [runs_len, w2]; exact infoRs)
  generalize runsC x2 = rc at *
  generalize ((thS rdB x2 : Nat) : Int) = rd at *
  generalize gS x2 = gg at *
  generalize T.revert = rv at *
  clear hX hS TB HC FEW GD GLE T8 w2
  go_wp2_with (first | (refine Row.wpList_load_g 32 _ rfl (by first | rfl | (go_simp; done) | fail) ⟨tb, 0, none⟩ rfl c _ (A1.out _ (Below.refl _ _)) Try.underlying32 rfl IA.out ?_) | (refine Row.wpList_load_g 36 _ rfl (by first | rfl | (go_simp; done) | fail) ⟨gr0, 0, none⟩ rfl x1.cells _ (seg H1.out 1 0 rfl _ rfl) Try.underlying36 rfl infoRg ?_))
  refine (RI.out _ (Below.refl _ _)).mono ?_
  rintro e v1 ⟨rfl, b1⟩
  have H2 := Lib.hid (H1.out.step b1)
  have B1 := Lib.hid b1
  clear b1 H1
  go_upto_region 3 with (first | (refine Row.wpList_store_new rfl 36 _ _ rfl _ _ X.cells.toArray rfl rfl rfl infoRg rfl (one_rg _) ?_))
  have hn := H2.out.alloc X.cells.toArray 36
  have hb3 := B1.out.alloc B1.out.size (.cells X.cells.toArray 36)
  generalize World.alloc v1 _ = v3 at hn hb3 ⊢
  generalize v1.heap.size = gx at hn ⊢
  have H3 := Lib.hid hn
  have B3 := Lib.hid hb3
  clear hn hb3 H2 B1 RI
  go_wp2_with (first | (refine Row.wpList_load_g 32 _ rfl (by first | rfl | (go_simp; done) | fail) ⟨tb, 0, none⟩ rfl c _ (A1.out _ B3.out) Try.underlying32 rfl IA.out ?_) | (refine Row.wpList_load_g 36 _ rfl (by first | rfl | (go_simp; done) | fail) ⟨gx, 0, none⟩ rfl X.cells _ (seg H3.out 0 0 rfl _ rfl) Try.underlying36 rfl infoRg ?_) | (refine Row.wpList_load_g 46 _ rfl (by first | rfl | (go_simp; done) | fail) ⟨gn, 0, none⟩ rfl rc _ (by have := H3.out.lies 1 rfl; simpa using this) Try.underlying46 rfl IR.out ?_))
  refine (ST.out _ B3.out).mono ?_
  rintro e v4 ⟨rfl, b4⟩
  have H4 := Lib.hid (H3.out.step b4)
  have B4 := Lib.hid (B3.out.trans (b4.mono B3.out.size))
  clear b4 H3 B3 ST
  go_upto_region 4 with (refine Row.wpList_store_new rfl 36 _ _ rfl _ _ S.r.cells.toArray rfl rfl rfl infoRg rfl (one_rg _) ?_)
  have hn := H4.out.alloc S.r.cells.toArray 36
  have hb5 := B4.out.alloc B4.out.size (.cells S.r.cells.toArray 36)
  generalize World.alloc v4 _ = v5 at hn hb5 ⊢
  generalize v4.heap.size = gs at hn ⊢
  have H5 := Lib.hid hn
  have B5 := Lib.hid hb5
  clear hn hb5 H4 B4
  go_wp2_with fail
  refine (RefS.rlist_any S.st _).mono ?_
  rintro e v6 ⟨v0', rfl, hown, hb6⟩
  have H6 := Lib.hid (H5.out.step hb6)
  have B6 := Lib.hid (B5.out.trans (hb6.mono B5.out.size))
  obtain ⟨sa, sc, rfl, hrow⟩ := RefS.row_of hown
  have HR := Lib.hid hrow
  clear hown hrow hb6 H5 B5
  have MEM : Hid (∀ i, i < (SetM.list S.st).length → SetM.has S.st ((SetM.list S.st).getD i 0) = true) := Lib.hid (fun i hi => (SetM.mem_list _ _).1 (by rw [List.getD_eq_getElem?_getD, List.getElem?_eq_getElem hi]; exact List.getElem_mem hi))
  have NDP : Hid (∀ i, 0 < i → i < (SetM.list S.st).length → (SetM.list S.st).getD i 0 ≠ (SetM.list S.st).getD 0 0) := Lib.hid (fun i h0 hi e => by
    rw [List.getD_eq_getElem?_getD, List.getElem?_eq_getElem hi, List.getD_eq_getElem?_getD, List.getElem?_eq_getElem (show 0 < (SetM.list S.st).length by omega)] at e
    have := (List.getElem_inj (list_nodup S.st)).1 e
    omega)
  generalize SetM.list S.st = M at *
  have hl2 := M3.out
  go_wp2_with fail
  go_loopw [15] (fun i wr => ∃ q : Nat, q ≤ M.length ∧ i = .int .i64 q ∧ Below v6.heap.size v6 wr) (fun i _ => M.length - (intOf i).toNat)
  case atStart => exact ⟨0, by omega, rfl, Below.refl _ _⟩
  case round =>
    obtain ⟨q, hq, rfl, hbel⟩ := hrel
    have HB := Lib.hid (H6.out.step hbel)
    have BB := Lib.hid (B6.out.trans (hbel.mono B6.out.size))
    have B66 := Lib.hid hbel
    clear hbel
    by_cases hlt : q < M.length
    · obtain ⟨x, hx, hc⟩ := (HR.out.below B66.out).cells (show 0 < M.length by omega)
      obtain rfl : sa = some x := hx
      have hz := hc q hlt
      have hz0 := hc 0 (by omega)
      rw [RefS.add_zero] at hz0
      have hmq := MEM.out q hlt
      have hm0 := MEM.out 0 (by omega)
      have hnd := fun h => NDP.out q h hlt
      generalize M.getD q 0 = p at hz hmq hnd
      generalize M.getD 0 0 = p0 at hz0 hm0 hnd
      obtain ⟨hw, hbu, htm, hp8, hcl⟩ := M1.out p hmq
      obtain ⟨j, rfl⟩ := Int.eq_ofNat_of_zero_le hp8.1
      have hj : j < 8 := by omega
      have BES : Hid (0 < q → PlaceM.beside T j p0 = true) := Lib.hid (fun h => M2.out _ _ hmq hm0 (hnd h))
      have HCL := Lib.hid hcl
      have hj8 : (j : Int) < 8 := hp8.2
      obtain ⟨rc0, rc1⟩ := RC.out j hj
      obtain ⟨cc, hcc⟩ : ∃ x, (ruAt x2 j).co = x := ⟨_, rfl⟩
      obtain ⟨tt, htt⟩ : ∃ x, (ruAt x2 j).tm = x := ⟨_, rfl⟩
      rw [hcc] at rc0
      rw [htt] at rc1 htm
      unfold buB at hbu
      rw [hcc] at hbu
      simp only [Bool.or_eq_false_iff] at hbu
      obtain ⟨e1, e2, e3⟩ := hbu
      have hHW : Hid (∀ W, Calls Try.prog 14 #[.int .i64 a3, .int .i64 j] W fun e w' => e = .returned (.bool true) ∧ Below W.heap.size W w') := Lib.hid (fun W => by rw [← hw]; exact (RefS.rhas_any _ _ W).mono fun e w' h => ⟨h.1, h.2 ▸ Below.refl _ _⟩)
      clear hp8 hcc htt hw hmq hm0 hnd hcl hc
      go_upto_region 9 with fail
      have XZ : Hid (∀ W, Below wr.heap.size wr W → W.cell? x = some (.int .i64 p0)) := Lib.hid (fun W hb => (hb.cell (World.block_lt_of_cell? wr _ hz0)).trans hz0)
      clear hz hz0
      have q1 : ∀ y : QB.By wr.heap.size wr, y.world.cell? ⟨gn, j * 12, none⟩ = some (I cc) := fun y => (HB.out.by y).cell 2 (j * 12) rfl (by rw [List.getElem?_toArray]; exact rc0)
      have q2 : ∀ y : QB.By wr.heap.size wr, y.world.cell? ⟨gn, j * 12 + 1, none⟩ = some (I tt) := fun y => (HB.out.by y).cell 2 (j * 12 + 1) rfl (by rw [List.getElem?_toArray]; exact rc1)
      have q3 : ∀ y : QB.By wr.heap.size wr, y.world.cell? ⟨tb, 119, none⟩ = some (I rv) := fun y => RV.out _ (BB.out.trans (y.below.mono BB.out.size))
      have dt : decide (tt < rv) = false := decide_eq_false (by omega)
      refine QB.region_below wr.heap.size (by kernel_rfl) (by kernel_rfl) ?_
      repeat first
        | (go_big_quiet_step (first | (go_at_call 14; with_reducible exact QB.call_of (Nat.le_refl _) (fun b => hHW.out _))))
      refine wpQuiet_nil ?_
      intro _ hw'
      obtain ⟨pq, rfl⟩ := hw'
      have HP := Lib.hid (HB.out.by pq)
      have BP := Lib.hid (BB.out.trans (pq.below.mono BB.out.size))
      have BW := Lib.hid pq.below
      generalize pq.world = vp at HP BP BW ⊢
      clear q1 q2 q3 dt e1 e2 e3 htm rc0 rc1 hHW
      go_wp2_with fail
      go_loopw [17] (fun k wr => ∃ m : Nat, m ≤ 8 ∧ k = .int .i64 m ∧ Below vp.heap.size vp wr) (fun k _ => 8 - (intOf k).toNat)
      case atStart => exact ⟨0, by omega, rfl, Below.refl _ _⟩
      case round =>
        obtain ⟨m, hm, rfl, hbk⟩ := hrel
        have HK := Lib.hid (HP.out.step hbk)
        have BK := Lib.hid (BP.out.trans (hbk.mono BP.out.size))
        have BKV := Lib.hid hbk
        clear hbk
        by_cases hmt : m < 8
        · have hm8 : (m : Int) < 8 := by omega
          go_wp2_with (refine Row.wpList_load_g 32 _ rfl (by first | rfl | (go_simp; done) | fail) ⟨tb, 0, none⟩ rfl c _ (A1.out _ BK.out) Try.underlying32 rfl IA.out ?_)
          refine (CL.out j m hj hmt _ BK.out).mono ?_
          rintro e w5 ⟨rfl, b5⟩
          have HQ := Lib.hid (HK.out.step b5)
          have BQV := Lib.hid (BKV.out.trans (b5.mono BKV.out.size))
          clear b5
          cases hcs : clsS T j m
          · go_wp2
            go_roundw
            case rel => exact ⟨m + 1, by omega, by go_num, BQV.out⟩
            case measure => simp [intOf]; omega
          · have hrd := RDH.out m ⟨by omega, hm8⟩ (HCL.out m ⟨by omega, hm8⟩ hcs)
            have hHD : Hid (∀ W, Calls Try.prog 14 #[.int .i64 rd, .int .i64 m] W fun e w' => e = .returned (.bool true) ∧ W = w') := Lib.hid (fun W => by rw [← hrd]; exact RefS.rhas_any _ _ W)
            clear hcs hrd
            go_wp2_with (refine Row.wpList_load_g 46 _ rfl (by first | rfl | (go_simp; done) | fail) ⟨gn, 0, none⟩ rfl rc _ (by have := HQ.out.lies 2 rfl; simpa using this) Try.underlying46 rfl IR.out ?_)
            refine (RD.out _).mono ?_
            rintro e w6 ⟨rfl, b6⟩
            have B6V := Lib.hid (BQV.out.trans (b6.mono BQV.out.size))
            clear b6 HQ BQV
            go_wp2_with (go_at_call 14; with_reducible refine (hHD.out _).mono ?_; rintro e w' ⟨rfl, rfl⟩)
            go_roundw
            case rel => exact ⟨m + 1, by omega, by go_num, B6V.out⟩
            case measure => simp [intOf]; omega
        · obtain rfl : m = 8 := by omega
          have BWK := Lib.hid (BW.out.trans (BKV.out.mono BW.out.size))
          clear HP BP BW BKV
          go_upto_region 16 with fail
          by_cases h0 : q = 0
          · subst h0
            have d0 : decide ((0 : Int) < 0) = false := by decide
            rw [show (((0 : Nat) : Int)) = (0 : Int) from rfl]
            refine QB.region_below wr.heap.size (by kernel_rfl) (by kernel_rfl) ?_
            repeat first
              | (refine wpQuiet_load rfl 32 _ rfl ⟨tb, 0, none⟩ rfl c _ (fun w' ⟨pw, e⟩ => by rw [e]; exact A1.out _ (BK.out.trans (pw.below.mono BK.out.size))) Try.underlying32 rfl IA.out ?_
                 dsimp only [Act.put]
                 simp only [List.setIfInBounds_toArray, List.set_cons_zero, List.set_cons_succ])
              | (go_big_quiet_step (first | fail))
            refine wpQuiet_nil ?_
            intro _ hw'
            obtain ⟨pq, rfl⟩ := hw'
            have BZ := Lib.hid (BWK.out.trans (pq.below.mono BWK.out.size))
            generalize pq.world = vz at BZ ⊢
            go_wp2
            go_roundw
            case rel => exact ⟨0 + 1, by omega, by go_num, B66.out.trans (BZ.out.mono B66.out.size)⟩
            case measure => simp [intOf]; omega
          · have d0 : decide ((0 : Int) < (q : Int)) = true := decide_eq_true (by omega)
            have d00 : decide ((q : Int) > 0) = true := decide_eq_true (by omega)
            have d01 : (0 : Int) < (q : Int) := by omega
            have d02 : 0 < q := by omega
            have d03 : decide (0 < q) = true := decide_eq_true (by omega)
            have hbt := BES.out (by omega)
            have hB1 : Hid (∀ W, Below u.heap.size u W → Calls Try.prog 17 #[.agg c.toArray, .int .i64 j, .int .i64 p0] W fun e w' => e = .returned (.bool true) ∧ Below W.heap.size W w') := Lib.hid (fun W hb => by rw [← hbt]; exact BE.out j p0 W hb)
            have q1 : ∀ y : QB.By wr.heap.size wr, y.world.cell? x = some (.int .i64 p0) := fun y => XZ.out _ (BWK.out.trans (y.below.mono BWK.out.size))
            refine QB.region_below wr.heap.size (by kernel_rfl) (by kernel_rfl) ?_
            repeat first
              | (refine wpQuiet_load rfl 32 _ rfl ⟨tb, 0, none⟩ rfl c _ (fun w' ⟨pw, e⟩ => by rw [e]; exact A1.out _ (BK.out.trans (pw.below.mono BK.out.size))) Try.underlying32 rfl IA.out ?_
                 dsimp only [Act.put]
                 simp only [List.setIfInBounds_toArray, List.set_cons_zero, List.set_cons_succ])
              | (go_big_quiet_step (first | (go_at_call 17; with_reducible exact QB.call_of (Nat.le_refl _) (fun b => hB1.out _ (BK.out.trans (b.mono BK.out.size))))))
            refine wpQuiet_nil ?_
            intro _ hw'
            obtain ⟨pq, rfl⟩ := hw'
            have BZ := Lib.hid (BWK.out.trans (pq.below.mono BWK.out.size))
            generalize pq.world = vz at BZ ⊢
            go_wp2
            go_roundw
            case rel => exact ⟨q + 1, by omega, by go_num, B66.out.trans (BZ.out.mono B66.out.size)⟩
            case measure => simp [intOf]; omega
    · obtain rfl : q = M.length := by omega
      go_upto_region 18 with fail
      obtain ⟨⟨sg, s0, s1, scr⟩, st, en⟩ := S
      dsimp only at M4 M5 M6 HB
      have m4 : (bits .andNot .i64 en gg == 0) = true := beq_iff_eq.2 M4.out
      have k2 : decide (((M.length : Nat) : Int) ≤ 2) = true := decide_eq_true (by omega)
      go_wp2_with (refine Row.wpList_load_g 46 _ rfl (by first | rfl | (go_simp; done) | fail) ⟨gn, 0, none⟩ rfl rc _ (by have := HB.out.lies 2 rfl; simpa using this) Try.underlying46 rfl IR.out ?_)
      refine (GN.out _).mono ?_
      rintro e w7 ⟨rfl, b7⟩
      have H7 := Lib.hid (HB.out.step b7)
      clear b7 HB
      have c0 : w7.cell? ⟨gs, 0, none⟩ = some (I sg) := H7.out.cell 0 0 rfl rfl
      have c3 : w7.cell? ⟨gs, 3, none⟩ = some (.bool scr) := H7.out.cell 0 3 rfl rfl
      have x0 : w7.cell? ⟨gx, 0, none⟩ = some (I X.g) := H7.out.cell 1 0 rfl rfl
      by_cases hst : st = 0
      · subst hst
        have d0 : ((0 : Int) == 0) = true := rfl
        cases scr
        · go_wp2_with fail
          refine (awake_any _).mono ?_
          rintro e w9 ⟨rfl, b9⟩
          go_wp2
          go_ret
          exact ⟨rfl, (H7.out.step b9).bel⟩
        · have eg := M6.out rfl
          subst eg
          have d1 : (X.g == X.g) = true := beq_self_eq_true _
          go_wp2_with fail
          refine (awake_any _).mono ?_
          rintro e w9 ⟨rfl, b9⟩
          go_wp2
          go_ret
          exact ⟨rfl, (H7.out.step b9).bel⟩
      · obtain ⟨h1, h2⟩ := M5.out.resolve_left hst
        subst h2
        have d0 : (st == 0) = false := beq_eq_false_iff_ne.2 hst
        have d1 : (bits .and .i64 en st == 0) = true := beq_iff_eq.2 h1
        clear h1
        go_wp2_with fail
        refine (awake_any _).mono ?_
        rintro e w9 ⟨rfl, b9⟩
        go_wp2
        go_ret
        exact ⟨rfl, (H7.out.step b9).bel⟩
/-! ### the row's step -/
theorem lifted (os : Os) (started : os.Started) (H : Type) (enc : TypeId × Value → H) :
    ReturnsInHanded {} Try.checked os 4 .any (Rows.ringMaySpec.pre6 enc Try.prog Try.f4 Rows.ringMayRow.domain false) (Rows.ringMaySpec.post enc Try.prog Try.f4 false true false false) := by
  refine returnsInHanded_of_change (C := Try.checked) own started (by kernel_rfl) Try.func4
    (ChangeSpec.witness6 (enc := enc) (C := Try.checked) false ⟨#[], #[.slice none 0 0, .agg (Rg.Rg.cells ⟨0, 0, 0, false⟩).toArray, .agg (Rg.runsC (List.replicate 8 Rg.zRu)).toArray, .int .i64 0], []⟩ 8 (by kernel_rfl) (by kernel_rfl) (by kernel_rfl) (by kernel_rfl)) ?_
  intro W base args ds gs before hval0 hW hcnd _
  have hval : ∀ (j : Nat) t v, Try.f4.params[j]? = some t → args[j]? = some v → Value.okWide Try.prog W .any base t v := hval0
  have hW' := hW
  obtain ⟨p, q, hA0, hV, rfl, hfz, hnd⟩ := hW
  have hA : DataW.TrodAll enc Try.prog W 0 (fun _ => true) true Try.f4.params.toList args.toList ds p := hA0
  rw [Try.params4] at hA hval
  obtain ⟨v0, vs0, d0, ds0, p0, q0, hargs, rfl, rfl, h0, r0⟩ := trodAll_cons hA
  obtain ⟨v1, vs1, d1, ds1, p1, q1, rfl, rfl, rfl, h1, r1⟩ := trodAll_cons r0
  obtain ⟨v2, vs2, d2, ds2, p2, q2, rfl, rfl, rfl, h2, r2⟩ := trodAll_cons r1
  obtain ⟨v3, vs3, d3, ds3, p3, q3, rfl, rfl, rfl, h3, r3⟩ := trodAll_cons r2
  obtain ⟨rfl, rfl, rfl⟩ := trodAll_nil r3
  obtain rfl : args = #[v0, v1, v2, v3] := by cases args; simp_all
  obtain ⟨rfl, rfl⟩ := trodVars_none hV
  obtain ⟨a0, len0, cap0, rfl⟩ := okWide_slice Try.underlying22 (hval 0 22 v0 rfl rfl)
  have k0 := h0
  have lt0 : ∀ x ∈ p0, x.block < W.heap.size := by obtain ⟨m, hm⟩ := k0; exact DataW.trod_lt m _ _ _ hm
  obtain ⟨z0, w0⟩ : ∃ zs, IsRow .i64 W a0 len0 cap0 zs := by
    obtain ⟨fuel, hf⟩ := h0
    rcases open_ints Try.underlying22 Try.underlying3 (by kernel_rfl) hf with ⟨hcs, _⟩ | ⟨x, l, c, zs, hcs, _, hl, hm, hz, _, hcell, hwz⟩
    · simp [Value.cells] at hcs
      obtain ⟨rfl, rfl, rfl⟩ := hcs
      exact ⟨[], .inl ⟨rfl, rfl, rfl, rfl⟩⟩
    · simp [Value.cells] at hcs
      obtain ⟨rfl, rfl, rfl⟩ := hcs
      exact ⟨zs, .inr ⟨_, rfl, hl, hm, by simpa using hz, hcell, hwz⟩⟩
  obtain ⟨c1, rfl, _⟩ := okWide_struct Try.underlying36 (hval 1 36 v1 rfl rfl)
  have k1 := h1
  have lt1 : ∀ x ∈ p1, x.block < W.heap.size := by obtain ⟨m, hm⟩ := k1; exact DataW.trod_lt m _ _ _ hm
  obtain ⟨x1, e1⟩ : ∃ x : Rg.Rg, c1 = x.cells.toArray := by
    obtain ⟨fuel, hf⟩ := h1
    obtain ⟨x, e⟩ := Rg.rg_el (Flat.trod_flat 4 _ _ Rg.flRg fuel _ _ hf)
    exact ⟨x, by rw [← e]; simp [Value.cells]⟩
  subst e1
  obtain ⟨c2, rfl, _⟩ := Rg.okWide_arr Try.underlying46 (hval 2 46 v2 rfl rfl)
  have k2 := h2
  have lt2 : ∀ x ∈ p2, x.block < W.heap.size := by obtain ⟨m, hm⟩ := k2; exact DataW.trod_lt m _ _ _ hm
  obtain ⟨x2, w2, e2⟩ : ∃ x : List Ru.Ru, x.length = 8 ∧ c2 = (Rg.runsC x).toArray := by
    obtain ⟨fuel, hf⟩ := h2
    obtain ⟨x, hl, e⟩ := Rg.rus_el 8 (Flat.trod_flat 5 _ _ Rg.flRs fuel _ _ hf)
    exact ⟨x, hl, by rw [← e]; simp [Value.cells]⟩
  subst e2
  obtain ⟨a3, rfl, rfl, rfl, w3⟩ := open_int Try.underlying3 (hval 3 3 v3 rfl rfl) h3
  clear hA0 hval0
  refine (walk a0 len0 cap0 z0 x1 x2 a3 W w0 w2 w3).mono fun e W' ⟨he, bel⟩ => ?_
  subst he
  exact ⟨_, rfl, _, _, _, [], _, [], hW', trodAll_mk1 (shut_bool Try.underlying4 _), (trodAll_cons_mk (Below.trod laidOut (by kernel_rfl) (of_decide_eq_true (by kernel_rfl)) k0 bel lt0) (trodAll_cons_mk (Below.trod laidOut (by kernel_rfl) (of_decide_eq_true (by kernel_rfl)) k1 bel lt1) (trodAll_cons_mk (Below.trod laidOut (by kernel_rfl) (of_decide_eq_true (by kernel_rfl)) k2 bel lt2) (trodAll_cons_mk (shut_int Try.underlying3 w3) trodAll_mk0)))), rfl, bel.frame _, fun h => by cases h⟩
theorem over : Rows.ringMayRow.holds Try.pinned (OpenSpec.ofChange Rows.ringMaySpec) :=
  OpenClaim.holds_of_wide 4 Try.f4 rfl rfl rfl rfl rfl rfl rfl ⟨rfl, rfl, rfl, rfl, rfl⟩ rfl rfl rfl rfl rfl (by kernel_rfl) Try.func4 (by kernel_rfl)
    (of_decide_eq_true (by kernel_rfl)) (by unfold Func.isWrapper; first | (rw [if_pos (by decide +kernel)]; kernel_rfl) | (rw [if_neg (by decide +kernel)]; exact ⟨rfl, rfl⟩))
    (fun os started H enc _ => lifted os started H enc)
/-- the statement -/
theorem proved : Rows.RingMaySaid :=
  over
#print axioms proved
end ringMay
end Go.Proofs.Ytjgpljnbeolapaa
