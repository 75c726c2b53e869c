/- TransitBudget returns true at any numbers of a table and any rows of asking and of greens: between two rounds no more ticks are held than the budget, and a round gives it back. No condition but what the card ties: math/bits' tables. -/
import Derived.Test.YtkccepdifgldeaaDoorRows
import Derived.Test.YtkccepdifgldeaaDoorTie
import Derived.Test.YtkccepdifgldeaaDoorCards
import Derived.Test.YtkccepdifgldeaaDoorPart02
import Derived.Test.YtkccepdifgldeaaDoorPart01
import Derived.Test.YtkccepdifgldeaaDoorPart03
import Derived.Deep.Cut
import Derived.LoopTactic
import Derived.BigQuiet
import Derived.Test.YtkccepdifgldeaaDoorPart08
import Derived.Test.YtkccepdifgldeaaDoorPart09
import Derived.Test.YtkccepdifgldeaaDoorPart07
import Derived.Deep.CutRange
import Derived.WalkKit
import Derived.WalkLawsBesides
import Derived.ProofKit
import Derived.OpenShut
import Derived.ShutString
import Derived.ChangeOld
import Derived.Below
set_option linter.unusedVariables false
set_option linter.unusedSimpArgs false
set_option linter.unusedSectionVars false
set_option maxHeartbeats 8000000
set_option maxRecDepth 100000
namespace Go.Proofs.YtkccepdifgldeaaDoor
namespace transitBudget
open Go.ChangeShapes Go.WideShapes Go.ChangeAt Go.RowKit
open Tab Ru QL Rg PlanM Tr Held
open GenT (genTab)
theorem own : ownKnob Tryd.prog.godebug = none := by kernel_rfl
theorem laidOut : laidOutB Tryd.prog = true := by kernel_rfl
/-- WHAT THE WALK IS TOLD OF A SLICE OF INTEGERS THAT CAME IN: it is nil; or it leads to a row of 'cap' cells, the numbers 'zs' (the first 'len' are its elements, the rest its spare room), each fitting its kind. -/
def IsRow (k : IntKind) (w : World) (a : Option Addr) (len cap : Nat) (zs : List Int) : Prop :=
  (a = none ∧ len = 0 ∧ cap = 0 ∧ zs = []) ∨
  ∃ x, a = some x ∧ len ≤ cap ∧ cap ≤ maxLen ∧ zs.length = cap ∧ (∀ i, i < zs.length → w.cell? (x.add i) = some (.int k (zs.getD i 0))) ∧ ∀ n ∈ zs, (Lit.int k n).wf = true
theorem isRow_int {w : World} {a : Option Addr} {len cap : Nat} {zs : List Int} (h : IsRow .i64 w a len cap zs) : (zs.take len).length = len ∧ Tab.IntRow w ⟨a, cap⟩ (zs.take len) := by
  rcases h with ⟨rfl, rfl, rfl, rfl⟩ | ⟨x, rfl, h1, h2, h3, h4, _⟩
  · exact ⟨rfl, .inl ⟨rfl, rfl, rfl⟩⟩
  · have hl : (zs.take len).length = len := by rw [List.length_take]; omega
    refine ⟨hl, .inr ⟨x, rfl, by rw [hl]; exact h1, h2, fun i v hv j u hu => ?_⟩⟩
    have hi : i < len := by have := (List.getElem?_eq_some_iff.1 hv).1; omega
    match j, hu with
    | 0, hu =>
      simp at hu
      subst hu
      rw [List.getElem?_take, if_pos hi] at hv
      have := h4 i (by omega)
      rw [List.getD_eq_getElem?_getD, hv] at this
      rw [Nat.mul_one, Tab.add_two, Nat.add_zero]
      exact this
    | j + 1, hu => simp at hu
theorem row_cell {w : World} {a : Option Addr} {cap : Nat} {l : List Int} (h : Tab.IntRow w ⟨a, cap⟩ l) {j : Nat} (hj : j < l.length) : ∃ x, a = some x ∧ w.cell? (x.add j) = some (I (l.getD j 0)) := by
  have := h.at (i := j) (v := l.getD j 0) (by rw [List.getD_eq_getElem?_getD, List.getElem?_eq_getElem hj]; rfl)
  exact this
theorem runs_put : ∀ (l : List Ru) (q : Nat), q < l.length → ∃ l' : List Ru, l'.length = l.length ∧ (runsC l).set (q * 12) (I 1) = runsC l'
  | [], q, h => by simp at h
  | x :: l, 0, h => ⟨{ x with co := 1 } :: l, rfl, rfl⟩
  | x :: l, q + 1, h => by
    obtain ⟨l', h1, h2⟩ := runs_put l q (by simpa using h)
    refine ⟨x :: l', by simp [h1], ?_⟩
    rw [show runsC (x :: l) = x.cells ++ runsC l from rfl, show runsC (x :: l') = x.cells ++ runsC l' from rfl, ← h2, List.set_append_right _ _ (by show 12 ≤ (q + 1) * 12; omega)]
    congr 2
    show (q + 1) * 12 - 12 = q * 12
    omega
/-! ### the walk -/
theorem walk (a0 : Option Addr) (len0 cap0 : Nat) (z0 : List Int) (a1 : Option Addr) (len1 cap1 : Nat) (z1 : List Int) (a2 : Option Addr) (len2 cap2 : Nat) (z2 : List Int) (w : World) (w0 : IsRow .i64 w a0 len0 cap0 z0) (w1 : IsRow .i64 w a1 len1 cap1 z1) (w2 : IsRow .i64 w a2 len2 cap2 z2) (db : Tr.DB w) :
    Calls Tryd.prog 6 #[.slice a0 len0 cap0, .slice a1 len1 cap1, .slice a2 len2 cap2] w fun e w' => e = .returned (.bool true) ∧ Below w.heap.size w w' := by
  obtain ⟨hlen, hrow⟩ := isRow_int w0
  obtain ⟨L, hL⟩ : ∃ L, L = z0.take len0 := ⟨_, rfl⟩
  rw [← hL] at hlen hrow
  clear hL w0
  subst hlen
  have hz := (zero_of_info GenT.infoTz).1
  have hZs : (Clone.zTab.cells Clone.zHd).length = 131 := rfl
  generalize hZ : GenT.zTab.cells GenT.zHd = Z at *
  have ZS : Z.toArray.size = 131 := by rw [← hZ]; rfl
  clear hZ hZs
  obtain ⟨hlen1, hrow1⟩ := isRow_int w1
  obtain ⟨M1, hM1⟩ : ∃ L, L = z1.take len1 := ⟨_, rfl⟩
  rw [← hM1] at hlen1 hrow1
  clear hM1 w1
  subst hlen1
  have RW1 : Hid (∀ j : Nat, j < M1.length → ∃ x, a1 = some x ∧ ∀ W, Below w.heap.size w W → W.cell? (x.add j) = some (I (M1.getD j 0))) := Lib.hid (fun j hj => by
    obtain ⟨x, hx, hc⟩ := row_cell hrow1 hj
    exact ⟨x, hx, fun W hb => (hb.cell (World.block_lt_of_cell? w _ hc)).trans hc⟩)
  clear hrow1
  obtain ⟨hlen2, hrow2⟩ := isRow_int w2
  obtain ⟨M2, hM2⟩ : ∃ L, L = z2.take len2 := ⟨_, rfl⟩
  rw [← hM2] at hlen2 hrow2
  clear hM2 w2
  subst hlen2
  have RW2 : Hid (∀ j : Nat, j < M2.length → ∃ x, a2 = some x ∧ ∀ W, Below w.heap.size w W → W.cell? (x.add j) = some (I (M2.getD j 0))) := Lib.hid (fun j hj => by
    obtain ⟨x, hx, hc⟩ := row_cell hrow2 hj
    exact ⟨x, hx, fun W hb => (hb.cell (World.block_lt_of_cell? w _ hc)).trans hc⟩)
  clear hrow2
  have GB : Hid (_) := Lib.hid (gen_bus L)
  go_enter Tryd.func6, Tryd.ntmps6
  go_wp2_with fail
  refine (GenT.table_any a0 cap0 L w hrow).mono ?_
  rintro e u0 ⟨hd, rfl, ht, hb⟩
  have CS := GenT.cells_cut hd ht.ph ht.cf ht.fl
  have ONE := (cells_ok ht).one
  have T8 := Lib.hid ht.ph
  have HT : Hid (∀ W, Below u0.heap.size u0 W → IsTab W hd (genTab L)) := Lib.hid (fun W hb => ht.below hb)
  have B0 := Lib.hid hb
  have IA : Hid ((Tryd.prog.info? 31).map (·.size) = some ((genTab L).cells hd).length) := Lib.hid (by rw [CS]; exact May.infoT)
  clear hb ht
  generalize hc : (genTab L).cells hd = c at *
  have HC := Lib.hid hc
  clear hc
  go_upto_region 2 with (refine Row.wpList_store_new rfl 31 _ _ rfl u0 Z.toArray c.toArray rfl rfl rfl (by rw [List.size_toArray]; exact IA.out) (by rw [ZS, List.size_toArray, CS]) ONE ?_)
  have hb2 : Below u0.heap.size u0 (u0.alloc (.cells c.toArray 31)) := (Below.refl _ _).alloc (Nat.le_refl _) _
  have hl : Lies (u0.alloc (.cells c.toArray 31)) ⟨u0.heap.size, 0, none⟩ c := Row.lies_new _ _ _
  have TB0 : Hid (∀ W, Below (u0.alloc (.cells c.toArray 31)).heap.size (u0.alloc (.cells c.toArray 31)) W → IsTab W hd (genTab L)) := Lib.hid (fun W hb => HT.out W (hb2.trans (hb.mono hb2.size)))
  generalize u0.alloc (.cells c.toArray 31) = u at hb2 hl TB0 ⊢
  have TB : Hid (∀ W, Below u.heap.size u W → IsTab W hd (genTab L)) := TB0
  have A0 : Hid (Below w.heap.size w u) := Lib.hid (B0.out.trans (hb2.mono B0.out.size))
  have A1 : Hid (∀ W, Below u.heap.size u W → Lies W ⟨u0.heap.size, 0, none⟩ c) := Lib.hid (fun W hb => Lies.below hl hb)
  clear hb2 hl TB0 HT B0 hrow hz ZS ONE CS
  generalize u0.heap.size = tb at *
  generalize genTab L = T at *
  have DB0 : Hid (∀ W, Below u.heap.size u W → DB W) := Lib.hid (fun W hb => db.below (A0.out.trans (hb.mono A0.out.size)))
  have AW : Hid (∀ W, Below u.heap.size u W → Calls Tryd.prog 9 #[] W fun e w' => e = .returned (.bool true) ∧ Below W.heap.size W w') := Lib.hid (fun W hb => awake_any W (DB0.out W hb))
  have ST : Hid (∀ (r : Rid) (k : Int) (h d : Bool) W, Below u.heap.size u W → Calls Tryd.prog 16 #[.agg c.toArray, .agg r.cells.toArray, .int .i64 k, .bool h, .bool d] W fun e w' => e = .returned (.agg (nextS T r k h d).cells.toArray) ∧ Below W.heap.size W w') := Lib.hid (fun r k h d W hb => by rw [← HC.out]; exact step_any T hd r k h d W (TB.out W hb) (DB0.out W hb))
  have HO : Hid (∀ (r : Rid) (rs : List Ru) (k : Int) W, rs.length = 8 → Below u.heap.size u W → Calls Tryd.prog 12 #[.agg c.toArray, .agg r.cells.toArray, .agg (runsC rs).toArray, .int .i64 k] W fun e w' => e = .returned (.int .i64 (holdS T r rs k : Nat)) ∧ Below W.heap.size W w') := Lib.hid (fun r rs k W h8 hb => by rw [← HC.out]; exact hold_any T hd r rs k W (TB.out W hb) (DB0.out W hb) h8)
  have CB : Hid (c[117]? = some (I T.budget)) := Lib.hid (by rw [← HC.out]; exact tab_bd (TB.out u (Below.refl _ _)))
  have KB : Hid (∀ W, Below u.heap.size u W → W.cell? ⟨tb, 117, none⟩ = some (I T.budget)) := Lib.hid (fun W hb => by
    have := A1.out W hb 117 _ CB.out
    rwa [Addr.add_mid, Nat.zero_add] at this)
  have BUD := Lib.hid GB.out.2.2
  have hzr := (zero_of_info (show (Tryd.prog.info? 41).map (fun i => (i.zero, i.size)) = some (some (.agg (runsC rz).toArray), 96) by kernel_rfl)).1
  have RZ8 : Hid (rz.length = 8) := Lib.hid rfl
  generalize rz = zz at *
  clear TB HC T8 CB GB
  by_cases hn : 200 < M1.length ∨ M2.length = 0
  · rcases hn with hn | hn
    · have e1 : (200 : Int) < (M1.length : Int) := by omega
      have e2 : ((M1.length : Int) > 200) := e1
      go_wp2_with fail
      refine (AW.out _ (Below.refl _ _)).mono ?_
      rintro e w9 ⟨rfl, b9⟩
      go_wp2
      go_ret
      exact ⟨rfl, A0.out.trans (b9.mono A0.out.size)⟩
    · by_cases hn1 : 200 < M1.length
      · have e1 : (200 : Int) < (M1.length : Int) := by omega
        have e2 : ((M1.length : Int) > 200) := e1
        go_wp2_with fail
        refine (AW.out _ (Below.refl _ _)).mono ?_
        rintro e w9 ⟨rfl, b9⟩
        go_wp2
        go_ret
        exact ⟨rfl, A0.out.trans (b9.mono A0.out.size)⟩
      · have e1 : ¬ (200 : Int) < (M1.length : Int) := by omega
        have e2 : ¬ ((M1.length : Int) > 200) := e1
        have e3 : ((M2.length : Int) == 0) = true := beq_iff_eq.2 (by omega)
        go_wp2_with fail
        refine (AW.out _ (Below.refl _ _)).mono ?_
        rintro e w9 ⟨rfl, b9⟩
        go_wp2
        go_ret
        exact ⟨rfl, A0.out.trans (b9.mono A0.out.size)⟩
  have hn1 : ¬ 200 < M1.length := fun h => hn (.inl h)
  have hn2 : 0 < M2.length := by omega
  have e1 : ¬ (200 : Int) < (M1.length : Int) := by omega
  have e2 : ¬ ((M1.length : Int) > 200) := e1
  have e3 : ((M2.length : Int) == 0) = false := beq_eq_false_iff_ne.2 (by omega)
  have hn0 := (Blk.Bks.nil u).alloc #[I 0, I 0, I 0, I 0, I 0, I 0] 34
  go_upto_region 6 with fail
  generalize World.alloc u _ = v at hn0 ⊢
  have AU := Lib.hid A0.out.size
  generalize hgs : u.heap.size = gs at hn0 ⊢
  have H0 : Hid (Blk.Bks u [(gs, zRid.cells.toArray, 34)] v) := Lib.hid hn0
  clear hn0 hgs e1 e2 e3 hn
  have N2 := Lib.hid hn2
  have N1 := Lib.hid hn1
  clear hn1 hn2
  go_wp2
  go_loopw [9, 10] (fun sp i wr => ∃ (q : Nat) (r : Rid), q ≤ M1.length ∧ i = .int .i64 q ∧ sp = .int .i64 r.sp ∧ Hid (0 ≤ r.sp ∧ r.sp ≤ 9999) ∧ Blk.Bks u [(gs, r.cells.toArray, 34)] wr) (fun _ i _ => M1.length - (intOf i).toNat)
  case atStart => exact ⟨0, zRid, by omega, rfl, rfl, Lib.hid ⟨by decide, by decide⟩, H0.out⟩
  case round =>
    obtain ⟨q, r, hq, rfl, rfl, HI, hB⟩ := hrel
    have HB := Lib.hid hB
    clear hB H0
    by_cases hlt : q < M1.length
    · obtain ⟨x, hx, hc⟩ := RW1.out q hlt
      obtain rfl : a1 = some x := hx
      generalize M1.getD q 0 = ak at hc
      have HXC : Hid (∀ W, Below u.heap.size u W → W.cell? (x.add q) = some (I ak)) := Lib.hid (fun W hb => hc W (A0.out.trans (hb.mono A0.out.size)))
      clear hc
      have g1 : (q : Int) < (M1.length : Int) := by omega
      have hmod := Nat.mod_lt q N2.out
      obtain ⟨y, hy, hgc⟩ := RW2.out (q % M2.length) hmod
      obtain rfl : a2 = some y := hy
      generalize M2.getD (q % M2.length) 0 = gk at hgc
      have HGC : Hid (∀ W, Below u.heap.size u W → W.cell? (y.add (q % M2.length)) = some (I gk)) := Lib.hid (fun W hb => hgc W (A0.out.trans (hb.mono A0.out.size)))
      clear hgc
      have HMOD := Lib.hid hmod
      clear hmod
      go_upto_region 10 with fail
      have hn := HB.out.alloc (runsC zz).toArray 41
      generalize World.alloc wr _ = v1 at hn ⊢
      generalize wr.heap.size = gq at hn ⊢
      have H1 := Lib.hid hn
      clear hn HB
      go_wp2
      go_loopw [12] (fun p wr => ∃ (m : Nat) (rs : List Ru), m ≤ 8 ∧ p = .int .i64 m ∧ Hid (rs.length = 8) ∧ Blk.Bks u [(gq, (runsC rs).toArray, 41), (gs, r.cells.toArray, 34)] wr) (fun p _ => 8 - (intOf p).toNat)
      case atStart => exact ⟨0, zz, by omega, rfl, RZ8, H1.out⟩
      case round =>
        obtain ⟨m, rs, hm, rfl, H8, hB⟩ := hrel
        have HB := Lib.hid hB
        clear hB H1
        by_cases hmt : m < 8
        · have m1 : (m : Int) < 8 := by omega
          have cg := HGC.out wr HB.out.bel
          have hm2 := HMOD.out
          have g2 : (0 : Int) < (M2.length : Int) := by have := N2.out; omega
          have g3 : ((M2.length : Int) == 0) = false := beq_eq_false_iff_ne.2 (by omega)
          have et : Int.tmod (q : Int) (M2.length : Int) = ((q % M2.length : Nat) : Int) := rfl
          have g4 : ((q % M2.length : Nat) : Int) < (M2.length : Int) := by omega
          have g5 : (0 : Int) ≤ ((q % M2.length : Nat) : Int) := by omega
          generalize q % M2.length = qm at *
          have kx : wr.cell? ⟨gq, m * 12, none⟩ = some (I (ruAt rs m).co) := HB.out.cell 0 (m * 12) rfl (by rw [List.getElem?_toArray]; have := runs_at H8.out hmt (j := 0) rfl; rwa [Nat.add_zero] at this)
          have fx : wr.frozen? ⟨gq, m * 12, none⟩ = false := HB.out.frozen 0 (m * 12) rfl
          obtain ⟨rs', hl', hp'⟩ := runs_put rs m (by rw [H8.out]; exact hmt)
          have HP' : Hid ((runsC rs).toArray.setIfInBounds (m * 12) (I 1) = (runsC rs').toArray) := Lib.hid (by rw [List.setIfInBounds_toArray, hp'])
          have H8' : Hid (rs'.length = 8) := Lib.hid (hl'.trans H8.out)
          clear hl' hp'
          generalize (ruAt rs m).co = co at kx
          obtain ⟨hb, hhb⟩ : ∃ b, SetM.has gk m = b := ⟨_, rfl⟩
          have HH : Hid (∀ W, Calls Tryd.prog 19 #[.int .i64 gk, .int .i64 m] W fun e w' => e = .returned (.bool hb) ∧ W = w') := Lib.hid (fun W => by rw [← hhb]; exact RefS.rhas_any _ _ W)
          clear hhb
          cases hb
          · go_wp2_with (go_at_call 19; with_reducible refine (HH.out _).mono ?_; rintro e w' ⟨rfl, rfl⟩)
            go_roundw
            case rel => exact ⟨m + 1, rs, by omega, by go_num, H8, HB.out⟩
            case measure => simp [intOf]; omega
          · go_wp2_with (go_at_call 19; with_reducible refine (HH.out _).mono ?_; rintro e w' ⟨rfl, rfl⟩)
            go_roundw
            case rel => exact ⟨m + 1, rs', by omega, by go_num, H8', by rw [← HP'.out]; exact HB.out.set 0 (m * 12) rfl (I 1)⟩
            case measure => simp [intOf]; omega
        · have IR : (Tryd.prog.info? 41).map (·.size) = some (runsC rs).length := by rw [runs_len, H8.out]; exact infoRs
          obtain ⟨hv, hhv⟩ : ∃ h : Int, (holdS T r rs ak : Nat) = h := ⟨_, rfl⟩
          have HO1 : Hid (∀ W, Below u.heap.size u W → Calls Tryd.prog 12 #[.agg c.toArray, .agg r.cells.toArray, .agg (runsC rs).toArray, .int .i64 ak] W fun e w' => e = .returned (.int .i64 hv) ∧ Below W.heap.size W w') := Lib.hid (fun W hb => by rw [← hhv]; exact HO.out r rs ak W H8.out hb)
          have qa : ∀ z : QB.By wr.heap.size wr, z.world.cell? (x.add q) = some (I ak) := fun z => HXC.out _ (HB.out.by z).bel
          have HV := Lib.hid HB.out.bel
          go_upto_region 15 with fail
          refine QB.region_below wr.heap.size (by kernel_rfl) (by kernel_rfl) ?_
          repeat first
            | (refine wpQuiet_load rfl 31 _ rfl ⟨tb, 0, none⟩ rfl c _ (fun w' ⟨pw, e⟩ => by rw [e]; exact A1.out _ (HB.out.by pw).bel) Tryd.underlying31 rfl IA.out ?_
               dsimp only [Act.put]
               simp only [List.setIfInBounds_toArray, List.set_cons_zero, List.set_cons_succ])
            | (refine wpQuiet_load rfl 34 _ rfl ⟨gs, 0, none⟩ rfl r.cells _ (fun w' ⟨pw, e⟩ => by rw [e]; exact seg (HB.out.by pw) 1 0 rfl _ rfl) Tryd.underlying34 rfl infoRd ?_
               dsimp only [Act.put]
               simp only [List.setIfInBounds_toArray, List.set_cons_zero, List.set_cons_succ])
            | (refine wpQuiet_load rfl 41 _ rfl ⟨gq, 0, none⟩ rfl (runsC rs) _ (fun w' ⟨pw, e⟩ => by rw [e]; exact seg (HB.out.by pw) 0 0 rfl _ (by simp)) Tryd.underlying41 rfl IR ?_
               dsimp only [Act.put]
               simp only [List.setIfInBounds_toArray, List.set_cons_zero, List.set_cons_succ])
            | (quiet_step (first | (go_at_call 12; with_reducible exact QB.call_of (Nat.le_refl _) (fun b => HO1.out _ (HV.out.trans (b.mono HV.out.size))))))
          refine wpQuiet_nil ?_
          intro _ hw'
          obtain ⟨pq, rfl⟩ := hw'
          have H2 := Lib.hid (HB.out.by pq).drop
          generalize pq.world = v2 at H2 ⊢
          clear qa HV HB HO1 IR
          obtain ⟨hld, hhl⟩ : ∃ b, (hv != 0) = b := ⟨_, rfl⟩
          obtain ⟨rnd, hrd⟩ : ∃ b, (bits .and .i64 (ak / 256) 15 == 1) = b := ⟨_, rfl⟩
          obtain ⟨s1, s2, s3⟩ := spend BUD.out (s := r) (rs := rs) (ask := ak) HI.out (held := hld) (by rw [hhv]; intro h; rw [← hhl]; exact bne_iff_ne.2 h) (by rw [hhv]; intro h; rw [← hhl] at h; exact bne_iff_ne.1 h) rnd
          obtain ⟨N, hN⟩ : ∃ N, nextS T r ak hld rnd = N := ⟨_, rfl⟩
          obtain ⟨_, n2, _⟩ := next_is T r ak hld rnd
          rw [hN] at n2
          rw [← n2] at s2 s3
          have S1 : Hid (∀ W, Below u.heap.size u W → Calls Tryd.prog 16 #[.agg c.toArray, .agg r.cells.toArray, .int .i64 ak, .bool hld, .bool rnd] W fun e w' => e = .returned (.agg N.cells.toArray) ∧ Below W.heap.size W w') := Lib.hid (fun W hb => by rw [← hN]; exact ST.out r ak hld rnd W hb)
          have HNI := Lib.hid s3
          have hsp := HI.out
          have hbud := BUD.out
          clear hhv n2 hN s3
          simp only [hhl]
          have ca := HXC.out v2 H2.out.bel
          have kb := KB.out v2 H2.out.bel
          generalize T.budget = bud at *
          clear hhl
          go_upto_region 17 with fail
          (try simp only [hrd])
          clear ca hrd
          have ca := HXC.out v2 H2.out.bel
          cases hld
          · cases rnd
            · have SV : N.sp = r.sp := by rw [s2]; rfl
              clear s1 s2
              have HSV := Lib.hid SV
              clear SV
              go_upto_region 23 with fail
              clear ca kb
              have qa : ∀ z : QB.By v2.heap.size v2, z.world.cell? (x.add q) = some (I ak) := fun z => HXC.out _ (H2.out.by z).bel
              have HV := Lib.hid H2.out.bel
              refine QT.region v2.heap.size 9 (by kernel_rfl) (by kernel_rfl) ?_
              simp only [List.take_succ_cons, List.take_zero]
              repeat first
                | (refine wpQuiet_load rfl 31 _ rfl ⟨tb, 0, none⟩ rfl c _ (fun w' ⟨pw, e⟩ => by rw [e]; exact A1.out _ (H2.out.by pw).bel) Tryd.underlying31 rfl IA.out ?_
                   dsimp only [Act.put]
                   simp only [List.setIfInBounds_toArray, List.set_cons_zero, List.set_cons_succ])
                | (refine wpQuiet_load rfl 34 _ rfl ⟨gs, 0, none⟩ rfl r.cells _ (fun w' ⟨pw, e⟩ => by rw [e]; exact seg (H2.out.by pw) 0 0 rfl _ rfl) Tryd.underlying34 rfl infoRd ?_
                   dsimp only [Act.put]
                   simp only [List.setIfInBounds_toArray, List.set_cons_zero, List.set_cons_succ])
                | (quiet_step (first | (go_at_call 16; with_reducible exact QB.call_of (Nat.le_refl _) (fun b => S1.out _ (HV.out.trans (b.mono HV.out.size))))))
              refine wpQuiet_nil ?_
              intro _ hw'
              obtain ⟨pq, rfl⟩ := hw'
              have HP := Lib.hid (H2.out.by pq)
              generalize pq.world = vp at HP ⊢
              simp only [List.drop_succ_cons, List.drop_zero]
              clear qa HV H2 S1
              go_upto_region 24 with (refine wpList_store_row rfl 34 _ _ rfl gs N.cells.toArray rfl rfl 34 _ (HP.out.at 0 rfl) infoRd rfl (one_rd _) ?_)
              have hput := HP.out.put 0 rfl N.cells.toArray
              simp only [List.set_cons_succ, List.set_cons_zero] at hput
              generalize World.setRow vp gs _ = v3 at hput ⊢
              have H3 := Lib.hid hput
              clear hput
              clear HP
              have c5 : v3.cell? ⟨gs, 5, none⟩ = some (I N.sp) := H3.out.cell 0 5 rfl rfl
              rw [HSV.out] at c5
              have hN1 := N1.out
              go_wp2
              go_roundw
              case rel => exact ⟨q + 1, N, by omega, by go_num, by rw [HSV.out], HNI, H3.out⟩
              case measure => simp [intOf]; omega
            · have SV : N.sp = 0 := by rw [s2]; rfl
              clear s1 s2
              have HSV := Lib.hid SV
              clear SV
              go_upto_region 23 with fail
              clear ca kb
              have qa : ∀ z : QB.By v2.heap.size v2, z.world.cell? (x.add q) = some (I ak) := fun z => HXC.out _ (H2.out.by z).bel
              have HV := Lib.hid H2.out.bel
              refine QT.region v2.heap.size 9 (by kernel_rfl) (by kernel_rfl) ?_
              simp only [List.take_succ_cons, List.take_zero]
              repeat first
                | (refine wpQuiet_load rfl 31 _ rfl ⟨tb, 0, none⟩ rfl c _ (fun w' ⟨pw, e⟩ => by rw [e]; exact A1.out _ (H2.out.by pw).bel) Tryd.underlying31 rfl IA.out ?_
                   dsimp only [Act.put]
                   simp only [List.setIfInBounds_toArray, List.set_cons_zero, List.set_cons_succ])
                | (refine wpQuiet_load rfl 34 _ rfl ⟨gs, 0, none⟩ rfl r.cells _ (fun w' ⟨pw, e⟩ => by rw [e]; exact seg (H2.out.by pw) 0 0 rfl _ rfl) Tryd.underlying34 rfl infoRd ?_
                   dsimp only [Act.put]
                   simp only [List.setIfInBounds_toArray, List.set_cons_zero, List.set_cons_succ])
                | (quiet_step (first | (go_at_call 16; with_reducible exact QB.call_of (Nat.le_refl _) (fun b => S1.out _ (HV.out.trans (b.mono HV.out.size))))))
              refine wpQuiet_nil ?_
              intro _ hw'
              obtain ⟨pq, rfl⟩ := hw'
              have HP := Lib.hid (H2.out.by pq)
              generalize pq.world = vp at HP ⊢
              simp only [List.drop_succ_cons, List.drop_zero]
              clear qa HV H2 S1
              go_upto_region 24 with (refine wpList_store_row rfl 34 _ _ rfl gs N.cells.toArray rfl rfl 34 _ (HP.out.at 0 rfl) infoRd rfl (one_rd _) ?_)
              have hput := HP.out.put 0 rfl N.cells.toArray
              simp only [List.set_cons_succ, List.set_cons_zero] at hput
              generalize World.setRow vp gs _ = v3 at hput ⊢
              have H3 := Lib.hid hput
              clear hput
              clear HP
              have c5 : v3.cell? ⟨gs, 5, none⟩ = some (I N.sp) := H3.out.cell 0 5 rfl rfl
              rw [HSV.out] at c5
              have hN1 := N1.out
              go_wp2
              go_roundw
              case rel => exact ⟨q + 1, N, by omega, by go_num, by rw [HSV.out], HNI, H3.out⟩
              case measure => simp [intOf]; omega
          · cases rnd
            · have SV : N.sp = r.sp + 1 := by rw [s2]; rfl
              have lt1 := s1 rfl
              have d1 : decide (r.sp ≥ bud) = false := decide_eq_false (by omega)
              have d2 : ¬ bud ≤ r.sp := by omega
              clear s1 s2
              have HSV := Lib.hid SV
              clear SV
              go_upto_region 23 with fail
              clear ca kb d1 d2
              have qa : ∀ z : QB.By v2.heap.size v2, z.world.cell? (x.add q) = some (I ak) := fun z => HXC.out _ (H2.out.by z).bel
              have HV := Lib.hid H2.out.bel
              refine QT.region v2.heap.size 9 (by kernel_rfl) (by kernel_rfl) ?_
              simp only [List.take_succ_cons, List.take_zero]
              repeat first
                | (refine wpQuiet_load rfl 31 _ rfl ⟨tb, 0, none⟩ rfl c _ (fun w' ⟨pw, e⟩ => by rw [e]; exact A1.out _ (H2.out.by pw).bel) Tryd.underlying31 rfl IA.out ?_
                   dsimp only [Act.put]
                   simp only [List.setIfInBounds_toArray, List.set_cons_zero, List.set_cons_succ])
                | (refine wpQuiet_load rfl 34 _ rfl ⟨gs, 0, none⟩ rfl r.cells _ (fun w' ⟨pw, e⟩ => by rw [e]; exact seg (H2.out.by pw) 0 0 rfl _ rfl) Tryd.underlying34 rfl infoRd ?_
                   dsimp only [Act.put]
                   simp only [List.setIfInBounds_toArray, List.set_cons_zero, List.set_cons_succ])
                | (quiet_step (first | (go_at_call 16; with_reducible exact QB.call_of (Nat.le_refl _) (fun b => S1.out _ (HV.out.trans (b.mono HV.out.size))))))
              refine wpQuiet_nil ?_
              intro _ hw'
              obtain ⟨pq, rfl⟩ := hw'
              have HP := Lib.hid (H2.out.by pq)
              generalize pq.world = vp at HP ⊢
              simp only [List.drop_succ_cons, List.drop_zero]
              clear qa HV H2 S1
              go_upto_region 24 with (refine wpList_store_row rfl 34 _ _ rfl gs N.cells.toArray rfl rfl 34 _ (HP.out.at 0 rfl) infoRd rfl (one_rd _) ?_)
              have hput := HP.out.put 0 rfl N.cells.toArray
              simp only [List.set_cons_succ, List.set_cons_zero] at hput
              generalize World.setRow vp gs _ = v3 at hput ⊢
              have H3 := Lib.hid hput
              clear hput
              clear HP
              have c5 : v3.cell? ⟨gs, 5, none⟩ = some (I N.sp) := H3.out.cell 0 5 rfl rfl
              rw [HSV.out] at c5
              have hN1 := N1.out
              go_wp2
              go_roundw
              case rel => exact ⟨q + 1, N, by omega, by go_num, by rw [HSV.out], HNI, H3.out⟩
              case measure => simp [intOf]; omega
            · have SV : N.sp = 1 := by rw [s2]; rfl
              have lt1 := s1 rfl
              have d1 : decide (r.sp ≥ bud) = false := decide_eq_false (by omega)
              have d2 : ¬ bud ≤ r.sp := by omega
              clear s1 s2
              have HSV := Lib.hid SV
              clear SV
              go_upto_region 23 with fail
              clear ca kb d1 d2
              have qa : ∀ z : QB.By v2.heap.size v2, z.world.cell? (x.add q) = some (I ak) := fun z => HXC.out _ (H2.out.by z).bel
              have HV := Lib.hid H2.out.bel
              refine QT.region v2.heap.size 9 (by kernel_rfl) (by kernel_rfl) ?_
              simp only [List.take_succ_cons, List.take_zero]
              repeat first
                | (refine wpQuiet_load rfl 31 _ rfl ⟨tb, 0, none⟩ rfl c _ (fun w' ⟨pw, e⟩ => by rw [e]; exact A1.out _ (H2.out.by pw).bel) Tryd.underlying31 rfl IA.out ?_
                   dsimp only [Act.put]
                   simp only [List.setIfInBounds_toArray, List.set_cons_zero, List.set_cons_succ])
                | (refine wpQuiet_load rfl 34 _ rfl ⟨gs, 0, none⟩ rfl r.cells _ (fun w' ⟨pw, e⟩ => by rw [e]; exact seg (H2.out.by pw) 0 0 rfl _ rfl) Tryd.underlying34 rfl infoRd ?_
                   dsimp only [Act.put]
                   simp only [List.setIfInBounds_toArray, List.set_cons_zero, List.set_cons_succ])
                | (quiet_step (first | (go_at_call 16; with_reducible exact QB.call_of (Nat.le_refl _) (fun b => S1.out _ (HV.out.trans (b.mono HV.out.size))))))
              refine wpQuiet_nil ?_
              intro _ hw'
              obtain ⟨pq, rfl⟩ := hw'
              have HP := Lib.hid (H2.out.by pq)
              generalize pq.world = vp at HP ⊢
              simp only [List.drop_succ_cons, List.drop_zero]
              clear qa HV H2 S1
              go_upto_region 24 with (refine wpList_store_row rfl 34 _ _ rfl gs N.cells.toArray rfl rfl 34 _ (HP.out.at 0 rfl) infoRd rfl (one_rd _) ?_)
              have hput := HP.out.put 0 rfl N.cells.toArray
              simp only [List.set_cons_succ, List.set_cons_zero] at hput
              generalize World.setRow vp gs _ = v3 at hput ⊢
              have H3 := Lib.hid hput
              clear hput
              clear HP
              have c5 : v3.cell? ⟨gs, 5, none⟩ = some (I N.sp) := H3.out.cell 0 5 rfl rfl
              rw [HSV.out] at c5
              have hN1 := N1.out
              go_wp2
              go_roundw
              case rel => exact ⟨q + 1, N, by omega, by go_num, by rw [HSV.out], HNI, H3.out⟩
              case measure => simp [intOf]; omega
    · obtain rfl : q = M1.length := by omega
      go_wp2_with fail
      refine (AW.out _ HB.out.bel).mono ?_
      rintro e w9 ⟨rfl, b9⟩
      go_wp2
      go_ret
      exact ⟨rfl, A0.out.trans ((HB.out.step b9).bel.mono A0.out.size)⟩
/-! ### the row's step -/
theorem lifted (os : Os) (started : os.Started) (H : Type) (enc : TypeId × Value → H) :
    ReturnsInHanded {} Tryd.checked os 6 .any (fun w args => (Rows.transitBudgetSpec.pre enc Tryd.prog Tryd.f6 Rows.transitBudgetRow.domain false w args ∧ laidMetH Tryd.prog Rows.transitBudgetRow.laid w) ∧ sizedMet enc Tryd.prog Tryd.f6 (OpenSpec.ofChange Rows.transitBudgetSpec) false w args) (Rows.transitBudgetSpec.post enc Tryd.prog Tryd.f6 false true false false) := by
  refine returnsInHanded_of_change_and (C := Tryd.checked) (X := fun w _ => laidMetH Tryd.prog Rows.transitBudgetRow.laid w) (fun _ _ _ hh h => h.of_heap hh) own started (by kernel_rfl) Tryd.func6
    (ChangeSpec.witness_shaped (enc := enc) (C := Tryd.checked) (os := os) (X := fun w _ => laidMetH Tryd.prog Rows.transitBudgetRow.laid w) false (World.doorLaid Tryd.prog 19 os) #[.slice none 0 0, .slice none 0 0, .slice none 0 0] 8 rfl (World.shaped_of_RefB (by kernel_rfl) (by kernel_rfl)) (by kernel_rfl) (by kernel_rfl) (by kernel_rfl) (TrZ.door_met os _)) ?_
  intro W base args ds gs before hval0 hW _ _ hL _
  have hval : ∀ (j : Nat) t v, Tryd.f6.params[j]? = some t → args[j]? = some v → Value.okWide Tryd.prog W .any base t v := hval0
  have hW' := hW
  obtain ⟨p, q, hA0, hV, rfl, hfz, hnd⟩ := hW
  have hA : DataW.TrodAll enc Tryd.prog W 0 (fun _ => true) true Tryd.f6.params.toList args.toList ds p := hA0
  rw [Tryd.params6] at hA hval
  obtain ⟨v0, vs0, d0, ds0, p0, q0, hargs, rfl, rfl, h0, r0⟩ := trodAll_cons hA
  obtain ⟨v1, vs1, d1, ds1, p1, q1, rfl, rfl, rfl, h1, r1⟩ := trodAll_cons r0
  obtain ⟨v2, vs2, d2, ds2, p2, q2, rfl, rfl, rfl, h2, r2⟩ := trodAll_cons r1
  obtain ⟨rfl, rfl, rfl⟩ := trodAll_nil r2
  obtain rfl : args = #[v0, v1, v2] := by cases args; simp_all
  obtain ⟨rfl, rfl⟩ := trodVars_none hV
  obtain ⟨a0, len0, cap0, rfl⟩ := okWide_slice Tryd.underlying47 (hval 0 47 v0 rfl rfl)
  have k0 := h0
  have lt0 : ∀ x ∈ p0, x.block < W.heap.size := by obtain ⟨m, hm⟩ := k0; exact DataW.trod_lt m _ _ _ hm
  obtain ⟨z0, w0⟩ : ∃ zs, IsRow .i64 W a0 len0 cap0 zs := by
    obtain ⟨fuel, hf⟩ := h0
    rcases open_ints Tryd.underlying47 Tryd.underlying3 (by kernel_rfl) hf with ⟨hcs, _⟩ | ⟨x, l, c, zs, hcs, _, hl, hm, hz, _, hcell, hwz⟩
    · simp [Value.cells] at hcs
      obtain ⟨rfl, rfl, rfl⟩ := hcs
      exact ⟨[], .inl ⟨rfl, rfl, rfl, rfl⟩⟩
    · simp [Value.cells] at hcs
      obtain ⟨rfl, rfl, rfl⟩ := hcs
      exact ⟨zs, .inr ⟨_, rfl, hl, hm, by simpa using hz, hcell, hwz⟩⟩
  obtain ⟨a1, len1, cap1, rfl⟩ := okWide_slice Tryd.underlying47 (hval 1 47 v1 rfl rfl)
  have k1 := h1
  have lt1 : ∀ x ∈ p1, x.block < W.heap.size := by obtain ⟨m, hm⟩ := k1; exact DataW.trod_lt m _ _ _ hm
  obtain ⟨z1, w1⟩ : ∃ zs, IsRow .i64 W a1 len1 cap1 zs := by
    obtain ⟨fuel, hf⟩ := h1
    rcases open_ints Tryd.underlying47 Tryd.underlying3 (by kernel_rfl) hf with ⟨hcs, _⟩ | ⟨x, l, c, zs, hcs, _, hl, hm, hz, _, hcell, hwz⟩
    · simp [Value.cells] at hcs
      obtain ⟨rfl, rfl, rfl⟩ := hcs
      exact ⟨[], .inl ⟨rfl, rfl, rfl, rfl⟩⟩
    · simp [Value.cells] at hcs
      obtain ⟨rfl, rfl, rfl⟩ := hcs
      exact ⟨zs, .inr ⟨_, rfl, hl, hm, by simpa using hz, hcell, hwz⟩⟩
  obtain ⟨a2, len2, cap2, rfl⟩ := okWide_slice Tryd.underlying47 (hval 2 47 v2 rfl rfl)
  have k2 := h2
  have lt2 : ∀ x ∈ p2, x.block < W.heap.size := by obtain ⟨m, hm⟩ := k2; exact DataW.trod_lt m _ _ _ hm
  obtain ⟨z2, w2⟩ : ∃ zs, IsRow .i64 W a2 len2 cap2 zs := by
    obtain ⟨fuel, hf⟩ := h2
    rcases open_ints Tryd.underlying47 Tryd.underlying3 (by kernel_rfl) hf with ⟨hcs, _⟩ | ⟨x, l, c, zs, hcs, _, hl, hm, hz, _, hcell, hwz⟩
    · simp [Value.cells] at hcs
      obtain ⟨rfl, rfl, rfl⟩ := hcs
      exact ⟨[], .inl ⟨rfl, rfl, rfl, rfl⟩⟩
    · simp [Value.cells] at hcs
      obtain ⟨rfl, rfl, rfl⟩ := hcs
      exact ⟨zs, .inr ⟨_, rfl, hl, hm, by simpa using hz, hcell, hwz⟩⟩
  clear hA0 hval0
  refine (walk a0 len0 cap0 z0 a1 len1 cap1 z1 a2 len2 cap2 z2 W w0 w1 w2 (TrZ.of_laid hL)).mono fun e W' ⟨he, bel⟩ => ?_
  subst he
  exact ⟨_, rfl, _, _, _, [], _, [], hW', trodAll_mk1 (shut_bool Tryd.underlying4 _), (trodAll_cons_mk (Below.trod laidOut (by kernel_rfl) (of_decide_eq_true (by kernel_rfl)) k0 bel lt0) (trodAll_cons_mk (Below.trod laidOut (by kernel_rfl) (of_decide_eq_true (by kernel_rfl)) k1 bel lt1) (trodAll_cons_mk (Below.trod laidOut (by kernel_rfl) (of_decide_eq_true (by kernel_rfl)) k2 bel lt2) trodAll_mk0))), rfl, bel.frame _, fun h => by cases h⟩
theorem over : Rows.transitBudgetRow.holds Tryd.pinned (OpenSpec.ofChange Rows.transitBudgetSpec) :=
  OpenClaim.holds_of_wide 6 Tryd.f6 rfl rfl rfl rfl rfl rfl rfl ⟨rfl, rfl, rfl, rfl, rfl⟩ rfl rfl rfl rfl rfl (by kernel_rfl) Tryd.func6 (by kernel_rfl)
    (of_decide_eq_true (by kernel_rfl)) (by unfold Func.isWrapper; first | (rw [if_pos (by decide +kernel)]; kernel_rfl) | (rw [if_neg (by decide +kernel)]; exact ⟨rfl, rfl⟩))
    (fun os started H enc _ => lifted os started H enc)
/-- the statement: the tied card -/
theorem proved : Rows.TransitBudgetCardSaid :=
  Claim7.holds_tied_plain_at .later [] Rows.transitBudgetCard.laidKinds true Rows.transitBudgetCard.stood.harness Rows.transitBudgetCard.stood.looks
    over (fun _ h => by cases h) (by kernel_rfl) (fun _ h => by cases h) transitBudget_row_tie rfl ⟨rfl, rfl⟩ (by kernel_rfl) rfl
    (fun f fn hf hfn => by
      obtain rfl : f = 6 := Option.some.inj ((show Tryd.prog.funcNamed "crossbuck/crossbucklaw20.TransitBudget" = some 6 by kernel_rfl).symm.trans hf) |>.symm
      obtain rfl : fn = Tryd.f6 := (Option.some.inj (Tryd.func6.symm.trans hfn)).symm
      exact ⟨by kernel_rfl, fun j t ht => by
        have hm : t ∈ Tryd.f6.params.toList := Array.mem_toList_iff.2 (Array.mem_of_getElem? ht)
        have hall : (Tryd.f6.params.toList.all fun u => !Tryd.prog.wantsStandIn u) = true := by kernel_rfl
        have h1 := List.all_eq_true.1 hall t hm
        exact (show Tryd.prog.wantsStandIn t = false by simpa using h1)⟩)
    (by kernel_rfl)
#print axioms proved
end transitBudget
end Go.Proofs.YtkccepdifgldeaaDoor
