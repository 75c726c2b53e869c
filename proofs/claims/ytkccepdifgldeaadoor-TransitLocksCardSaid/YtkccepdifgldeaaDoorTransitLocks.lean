/- TransitLocks returns true at any numbers of a table and any row of asking: a bus that came and went is not heard for as many ticks as it is locked; one that stays is heard. No condition but what the card ties: math/bits' tables. -/
import Derived.Test.YtkccepdifgldeaaDoorRows
import Derived.Test.YtkccepdifgldeaaDoorTie
import Derived.Test.YtkccepdifgldeaaDoorCards
import Derived.Test.YtkccepdifgldeaaDoorPart02
import Derived.Test.YtkccepdifgldeaaDoorPart01
import Derived.Test.YtkccepdifgldeaaDoorPart03
import Derived.Deep.Cut
import Derived.LoopTactic
import Derived.BigQuiet
import Derived.Test.YtkccepdifgldeaaDoorPart08
import Derived.Test.YtkccepdifgldeaaDoorPart09
import Derived.Test.YtkccepdifgldeaaDoorPart07
import Derived.Deep.CutRange
import Derived.WalkKit
import Derived.WalkLawsBesides
import Derived.ProofKit
import Derived.OpenShut
import Derived.ShutString
import Derived.ChangeOld
import Derived.Below
set_option linter.unusedVariables false
set_option linter.unusedSimpArgs false
set_option linter.unusedSectionVars false
set_option maxHeartbeats 8000000
set_option maxRecDepth 100000
namespace Go.Proofs.YtkccepdifgldeaaDoor
namespace transitLocks
open Go.ChangeShapes Go.WideShapes Go.ChangeAt Go.RowKit
open Tab Ru QL Rg PlanM Tr Held
open GenT (genTab)
theorem own : ownKnob Tryd.prog.godebug = none := by kernel_rfl
theorem laidOut : laidOutB Tryd.prog = true := by kernel_rfl
/-- WHAT THE WALK IS TOLD OF A SLICE OF INTEGERS THAT CAME IN: it is nil; or it leads to a row of 'cap' cells, the numbers 'zs' (the first 'len' are its elements, the rest its spare room), each fitting its kind. -/
def IsRow (k : IntKind) (w : World) (a : Option Addr) (len cap : Nat) (zs : List Int) : Prop :=
  (a = none ∧ len = 0 ∧ cap = 0 ∧ zs = []) ∨
  ∃ x, a = some x ∧ len ≤ cap ∧ cap ≤ maxLen ∧ zs.length = cap ∧ (∀ i, i < zs.length → w.cell? (x.add i) = some (.int k (zs.getD i 0))) ∧ ∀ n ∈ zs, (Lit.int k n).wf = true
theorem isRow_int {w : World} {a : Option Addr} {len cap : Nat} {zs : List Int} (h : IsRow .i64 w a len cap zs) : (zs.take len).length = len ∧ Tab.IntRow w ⟨a, cap⟩ (zs.take len) := by
  rcases h with ⟨rfl, rfl, rfl, rfl⟩ | ⟨x, rfl, h1, h2, h3, h4, _⟩
  · exact ⟨rfl, .inl ⟨rfl, rfl, rfl⟩⟩
  · have hl : (zs.take len).length = len := by rw [List.length_take]; omega
    refine ⟨hl, .inr ⟨x, rfl, by rw [hl]; exact h1, h2, fun i v hv j u hu => ?_⟩⟩
    have hi : i < len := by have := (List.getElem?_eq_some_iff.1 hv).1; omega
    match j, hu with
    | 0, hu =>
      simp at hu
      subst hu
      rw [List.getElem?_take, if_pos hi] at hv
      have := h4 i (by omega)
      rw [List.getD_eq_getElem?_getD, hv] at this
      rw [Nat.mul_one, Tab.add_two, Nat.add_zero]
      exact this
    | j + 1, hu => simp at hu
theorem row_cell {w : World} {a : Option Addr} {cap : Nat} {l : List Int} (h : Tab.IntRow w ⟨a, cap⟩ l) {j : Nat} (hj : j < l.length) : ∃ x, a = some x ∧ w.cell? (x.add j) = some (I (l.getD j 0)) := by
  have := h.at (i := j) (v := l.getD j 0) (by rw [List.getD_eq_getElem?_getD, List.getElem?_eq_getElem hj]; rfl)
  exact this
/-! ### the walk -/
theorem walk (a0 : Option Addr) (len0 cap0 : Nat) (z0 : List Int) (a1 : Option Addr) (len1 cap1 : Nat) (z1 : List Int) (w : World) (w0 : IsRow .i64 w a0 len0 cap0 z0) (w1 : IsRow .i64 w a1 len1 cap1 z1) (db : Tr.DB w) :
    Calls Tryd.prog 5 #[.slice a0 len0 cap0, .slice a1 len1 cap1] w fun e w' => e = .returned (.bool true) ∧ Below w.heap.size w w' := by
  obtain ⟨hlen, hrow⟩ := isRow_int w0
  obtain ⟨L, hL⟩ : ∃ L, L = z0.take len0 := ⟨_, rfl⟩
  rw [← hL] at hlen hrow
  clear hL w0
  subst hlen
  have hz := (zero_of_info GenT.infoTz).1
  have hZs : (Clone.zTab.cells Clone.zHd).length = 131 := rfl
  generalize hZ : GenT.zTab.cells GenT.zHd = Z at *
  have ZS : Z.toArray.size = 131 := by rw [← hZ]; rfl
  clear hZ hZs
  obtain ⟨hlen1, hrow1⟩ := isRow_int w1
  obtain ⟨M1, hM1⟩ : ∃ L, L = z1.take len1 := ⟨_, rfl⟩
  rw [← hM1] at hlen1 hrow1
  clear hM1 w1
  subst hlen1
  have RW1 : Hid (∀ j : Nat, j < M1.length → ∃ x, a1 = some x ∧ ∀ W, Below w.heap.size w W → W.cell? (x.add j) = some (I (M1.getD j 0))) := Lib.hid (fun j hj => by
    obtain ⟨x, hx, hc⟩ := row_cell hrow1 hj
    exact ⟨x, hx, fun W hb => (hb.cell (World.block_lt_of_cell? w _ hc)).trans hc⟩)
  clear hrow1
  have GB : Hid (_) := Lib.hid (gen_bus L)
  go_enter Tryd.func5, Tryd.ntmps5
  go_wp2_with fail
  refine (GenT.table_any a0 cap0 L w hrow).mono ?_
  rintro e u0 ⟨hd, rfl, ht, hb⟩
  have CS := GenT.cells_cut hd ht.ph ht.cf ht.fl
  have ONE := (cells_ok ht).one
  have T8 := Lib.hid ht.ph
  have HT : Hid (∀ W, Below u0.heap.size u0 W → IsTab W hd (genTab L)) := Lib.hid (fun W hb => ht.below hb)
  have B0 := Lib.hid hb
  have IA : Hid ((Tryd.prog.info? 31).map (·.size) = some ((genTab L).cells hd).length) := Lib.hid (by rw [CS]; exact May.infoT)
  clear hb ht
  generalize hc : (genTab L).cells hd = c at *
  have HC := Lib.hid hc
  clear hc
  go_upto_region 2 with (refine Row.wpList_store_new rfl 31 _ _ rfl u0 Z.toArray c.toArray rfl rfl rfl (by rw [List.size_toArray]; exact IA.out) (by rw [ZS, List.size_toArray, CS]) ONE ?_)
  have hb2 : Below u0.heap.size u0 (u0.alloc (.cells c.toArray 31)) := (Below.refl _ _).alloc (Nat.le_refl _) _
  have hl : Lies (u0.alloc (.cells c.toArray 31)) ⟨u0.heap.size, 0, none⟩ c := Row.lies_new _ _ _
  have TB0 : Hid (∀ W, Below (u0.alloc (.cells c.toArray 31)).heap.size (u0.alloc (.cells c.toArray 31)) W → IsTab W hd (genTab L)) := Lib.hid (fun W hb => HT.out W (hb2.trans (hb.mono hb2.size)))
  generalize u0.alloc (.cells c.toArray 31) = u at hb2 hl TB0 ⊢
  have TB : Hid (∀ W, Below u.heap.size u W → IsTab W hd (genTab L)) := TB0
  have A0 : Hid (Below w.heap.size w u) := Lib.hid (B0.out.trans (hb2.mono B0.out.size))
  have A1 : Hid (∀ W, Below u.heap.size u W → Lies W ⟨u0.heap.size, 0, none⟩ c) := Lib.hid (fun W hb => Lies.below hl hb)
  clear hb2 hl TB0 HT B0 hrow hz ZS ONE CS
  generalize u0.heap.size = tb at *
  generalize genTab L = T at *
  have DB0 : Hid (∀ W, Below u.heap.size u W → DB W) := Lib.hid (fun W hb => db.below (A0.out.trans (hb.mono A0.out.size)))
  have ST : Hid (∀ (r : Rid) (k : Int) W, Below u.heap.size u W → Calls Tryd.prog 16 #[.agg c.toArray, .agg r.cells.toArray, .int .i64 k, .bool false, .bool false] W fun e w' => e = .returned (.agg (nextS T r k false false).cells.toArray) ∧ Below W.heap.size W w') := Lib.hid (fun r k W hb => by rw [← HC.out]; exact step_any T hd r k false false W (TB.out W hb) (DB0.out W hb))
  have LV : Hid (∀ (r : Rid) (k : Int) W, Below u.heap.size u W → Calls Tryd.prog 10 #[.agg c.toArray, .agg r.cells.toArray, .int .i64 k] W fun e w' => e = .returned (.int .i64 (liveS T r k : Nat)) ∧ Below W.heap.size W w') := Lib.hid (fun r k W hb => by rw [← HC.out]; exact live_any T hd r k W (TB.out W hb) (DB0.out W hb))
  have AW : Hid (∀ W, Below u.heap.size u W → Calls Tryd.prog 9 #[] W fun e w' => e = .returned (.bool true) ∧ Below W.heap.size W w') := Lib.hid (fun W hb => awake_any W (DB0.out W hb))
  have CB : Hid (c[115]? = some (.slice hd.b.a T.buses.length hd.b.cap)) := Lib.hid (by rw [← HC.out]; exact tab_bu (TB.out u (Below.refl _ _)))
  have BUS : Hid (∀ q, q < T.buses.length → ∀ W, Below u.heap.size u W → ∃ x, hd.b.a = some x ∧ W.cell? (x.add (q * 2)) = some (I (busAt T.buses q).set) ∧ W.cell? ⟨(x.add (q * 2)).block, (x.add (q * 2)).off + 1, none⟩ = some (I (busAt T.buses q).lock)) := Lib.hid (fun q hq W hb => by
    obtain ⟨x, h1, h2⟩ := (TB.out W hb).buses.at (bus_at hq)
    have c0 := h2 0 _ rfl
    have c1 := h2 1 _ rfl
    rw [Tab.add_zero] at c0
    rw [Tab.add_one] at c1
    exact ⟨x, h1, c0, c1⟩)
  have KB : Hid (∀ W, Below u.heap.size u W → W.cell? ⟨tb, 115, none⟩ = some (.slice hd.b.a T.buses.length hd.b.cap)) := Lib.hid (fun W hb => by
    have := A1.out W hb 115 _ CB.out
    rwa [Addr.add_mid, Nat.zero_add] at this)
  clear TB HC T8 CB
  by_cases hn : 200 < M1.length
  · have e1 : (200 : Int) < (M1.length : Int) := by omega
    have e2 : ((M1.length : Int) > 200) := e1
    go_wp2_with fail
    refine (AW.out _ (Below.refl _ _)).mono ?_
    rintro e w9 ⟨rfl, b9⟩
    go_wp2
    go_ret
    exact ⟨rfl, A0.out.trans (b9.mono A0.out.size)⟩
  have e1 : ¬ (200 : Int) < (M1.length : Int) := by omega
  have e2 : ¬ ((M1.length : Int) > 200) := e1
  have hn0 := ((Blk.Bks.nil u).alloc #[I 0, I 0, I 0, I 0, I 0, I 0] 34).alloc #[I 0, I 0, I 0, I 0] 32
  rw [show (u.alloc (.cells #[I 0, I 0, I 0, I 0, I 0, I 0] 34)).heap.size = u.heap.size + 1 by simp] at hn0
  go_upto_region 7 with fail
  generalize World.alloc (World.alloc u _) _ = v at hn0 ⊢
  generalize hgd : u.heap.size + 1 = gd at hn0 ⊢
  have AU := Lib.hid A0.out.size
  have hAA : Hid (w.heap.size ≤ u.heap.size) := AU
  generalize hgs : u.heap.size = gs at hn0 hgd ⊢
  have H0 : Hid (Blk.Bks u [(gd, dC zRid, 32), (gs, zRid.cells.toArray, 34)] v) := Lib.hid hn0
  clear hn0 hgd hgs
  have g200 : (M1.length : Int) ≤ 200 := by omega
  clear e1 e2 hn
  go_wp2
  go_loopw [8, 9] (fun was i wr => ∃ (q : Nat) (r : Rid), q ≤ M1.length ∧ i = .int .i64 q ∧ was = .int .i64 r.was ∧ Hid (LkI T r) ∧ Blk.Bks u [(gd, dC r, 32), (gs, r.cells.toArray, 34)] wr) (fun _ i _ => M1.length - (intOf i).toNat)
  case atStart => exact ⟨0, zRid, by omega, rfl, rfl, Lib.hid (lki_zero T), H0.out⟩
  case round =>
    obtain ⟨q, r, hq, rfl, rfl, HI, hB⟩ := hrel
    have HB := Lib.hid hB
    clear hB H0
    by_cases hlt : q < M1.length
    · obtain ⟨x, hx, hc⟩ := RW1.out q hlt
      obtain rfl : a1 = some x := hx
      generalize M1.getD q 0 = ak at hc
      have HXC : Hid (∀ W, Below u.heap.size u W → W.cell? (x.add q) = some (I ak)) := Lib.hid (fun W hb => hc W (A0.out.trans (hb.mono A0.out.size)))
      clear hc
      have g1 : (q : Int) < (M1.length : Int) := by omega
      have qa : ∀ y : QB.By wr.heap.size wr, y.world.cell? (x.add q) = some (I ak) := fun y => HXC.out _ (HB.out.by y).bel
      have HV := Lib.hid HB.out.bel
      obtain ⟨live, hlive⟩ : ∃ l : Int, (liveS T r ak : Nat) = l := ⟨_, rfl⟩
      have L1 : Hid (∀ W, Below u.heap.size u W → Calls Tryd.prog 10 #[.agg c.toArray, .agg r.cells.toArray, .int .i64 ak] W fun e w' => e = .returned (.int .i64 live) ∧ Below W.heap.size W w') := Lib.hid (fun W hb => by rw [← hlive]; exact LV.out r ak W hb)
      obtain ⟨N, hN⟩ : ∃ N, nextS T r ak false false = N := ⟨_, rfl⟩
      have S1 : Hid (∀ W, Below u.heap.size u W → Calls Tryd.prog 16 #[.agg c.toArray, .agg r.cells.toArray, .int .i64 ak, .bool false, .bool false] W fun e w' => e = .returned (.agg N.cells.toArray) ∧ Below W.heap.size W w') := Lib.hid (fun W hb => by rw [← hN]; exact ST.out r ak W hb)
      have HN : Hid (LkI T N ∧ N.was = live ∧ ∀ k, k < 4 → N.lk k = if k < T.buses.length then valL T r ak k 0 else 0) := Lib.hid (by
        obtain ⟨n1, n2, n3⟩ := next_is T r ak false false
        rw [hlive] at n1
        rw [hN] at n1 n3
        exact ⟨by rw [← hN]; exact lki_next HI.out GB.out.2.1 ak, n1, n3⟩)
      have HD : Hid (∀ k : Nat, k < 4 → SetM.has live k = (decide (k < T.buses.length) && (SetM.has ak k && (r.lk k == 0)))) := Lib.hid (fun k hk => by rw [← hlive]; exact heard HI.out ak hk)
      clear hlive hN
      go_upto_region 10 with fail
      refine QB.region_below wr.heap.size (by kernel_rfl) (by kernel_rfl) ?_
      repeat first
        | (refine wpQuiet_load rfl 31 _ rfl ⟨tb, 0, none⟩ rfl c _ (fun w' ⟨pw, e⟩ => by rw [e]; exact A1.out _ (HB.out.by pw).bel) Tryd.underlying31 rfl IA.out ?_
           dsimp only [Act.put]
           simp only [List.setIfInBounds_toArray, List.set_cons_zero, List.set_cons_succ])
        | (refine wpQuiet_load rfl 34 _ rfl ⟨gs, 0, none⟩ rfl r.cells _ (fun w' ⟨pw, e⟩ => by rw [e]; exact seg (HB.out.by pw) 1 0 rfl _ rfl) Tryd.underlying34 rfl infoRd ?_
           dsimp only [Act.put]
           simp only [List.setIfInBounds_toArray, List.set_cons_zero, List.set_cons_succ])
        | (quiet_step (first | (go_at_call 10; with_reducible exact QB.call_of (Nat.le_refl _) (fun b => L1.out _ (HV.out.trans (b.mono HV.out.size))))))
      refine wpQuiet_nil ?_
      intro _ hw'
      obtain ⟨pq, rfl⟩ := hw'
      have H1 := Lib.hid (HB.out.by pq)
      generalize pq.world = v1 at H1 ⊢
      clear qa HV HB L1
      go_wp2
      go_loopw [11] (fun k wr => ∃ (m : Nat) (d : Rid), m ≤ 4 ∧ k = .int .i64 m ∧ Hid (Half r N d m) ∧ Blk.Bks u [(gd, dC d, 32), (gs, r.cells.toArray, 34)] wr) (fun k _ => 4 - (intOf k).toNat)
      case atStart => exact ⟨0, r, by omega, rfl, Lib.hid (Half.zero r N), H1.out⟩
      case round =>
        obtain ⟨m, d, hm, rfl, HH, hB⟩ := hrel
        have HB := Lib.hid hB
        clear hB H1
        by_cases hmt : m < 4
        · have m1 : (m : Int) < 4 := by omega
          have m2 : (m : Int) < 64 := by omega
          have hm8 : m < 8 := by omega
          have cd : wr.cell? ⟨gd, m, none⟩ = some (I (d.lk m)) := HB.out.cell 0 m rfl (dC_at d hmt)
          have fd : wr.frozen? ⟨gd, m, none⟩ = false := HB.out.frozen 0 m rfl
          have hdl := HH.out.old m (Nat.le_refl _) hmt
          rw [hdl] at cd
          have ca := HXC.out wr HB.out.bel
          have cb := KB.out wr HB.out.bel
          have hlv := HD.out m hmt
          have hNl := HN.out.2.2 m hmt
          have hlo := HI.out.lo m hmt
          have hout := HI.out.out m hmt
          have hwas := HI.out.was m hmt
          unfold valL at hNl
          by_cases hbl : m < T.buses.length
          rotate_left
          · have h0 := hout hbl
            have g3 : ¬ (m : Int) < (T.buses.length : Int) := by omega
            have hw : SetM.has r.was m = false := by cases h : SetM.has r.was m with | false => rfl | true => exact absurd (hwas h) hbl
            obtain ⟨a1', a2'⟩ := shr1 hm8 (show SetM.has live m = false by rw [hlv, decide_eq_false hbl]; rfl)
            obtain ⟨b1', b2'⟩ := shr1 hm8 hw
            rw [h0] at cd
            rw [if_neg hbl] at hNl
            have HE : Hid (r.lk m = N.lk m) := Lib.hid (by rw [h0, hNl])
            clear hNl hlo hout hwas
            go_wp2
            go_roundw
            case rel => exact ⟨m + 1, d, by omega, by go_num, Lib.hid (HH.out.skip hmt HE.out), HB.out⟩
            case measure => simp [intOf]; omega
          have g3 : (m : Int) < (T.buses.length : Int) := by omega
          rw [if_pos hbl] at hNl
          rw [decide_eq_true hbl, Bool.true_and] at hlv
          obtain ⟨bx, hbx, _, bc1⟩ := BUS.out m hbl wr HB.out.bel
          rw [hbx] at cb
          by_cases h0 : 0 < r.lk m
          · have d1 : decide (r.lk m > 0) = true := decide_eq_true h0
            have d2 : (r.lk m == 0) = false := beq_eq_false_iff_ne.2 (by omega)
            rw [if_pos h0] at hNl
            rw [d2, Bool.and_false] at hlv
            obtain ⟨a1', a2'⟩ := shr1 hm8 hlv
            cases hk : SetM.has ak m
            · obtain ⟨k1', k2'⟩ := shr1 hm8 hk
              have HE : Hid (wrap64 (r.lk m - 1) = N.lk m) := Lib.hid hNl.symm
              clear hNl hlo hout hwas
              go_wp2
              go_roundw
              case rel => exact ⟨m + 1, d.put m (wrap64 (r.lk m - 1)), by omega, by go_num, Lib.hid (HH.out.put hmt HE.out), by rw [← dC_put d hmt]; exact HB.out.set 0 m rfl _⟩
              case measure => simp [intOf]; omega
            · obtain ⟨k1', k2'⟩ := shr1 hm8 hk
              have HE : Hid (wrap64 (r.lk m - 1) = N.lk m) := Lib.hid hNl.symm
              clear hNl hlo hout hwas
              go_wp2
              go_roundw
              case rel => exact ⟨m + 1, d.put m (wrap64 (r.lk m - 1)), by omega, by go_num, Lib.hid (HH.out.put hmt HE.out), by rw [← dC_put d hmt]; exact HB.out.set 0 m rfl _⟩
              case measure => simp [intOf]; omega
          have d1 : decide (r.lk m > 0) = false := decide_eq_false h0
          have z0 : r.lk m = 0 := by omega
          have d2 : (r.lk m == 0) = true := beq_iff_eq.2 z0
          rw [if_neg h0] at hNl
          rw [d2, Bool.and_true] at hlv
          obtain ⟨a1', a2'⟩ := shr1 hm8 hlv
          cases hw : SetM.has r.was m
          · rw [hw, Bool.false_and, if_neg (by simp)] at hNl
            obtain ⟨b1', b2'⟩ := shr1 hm8 hw
            cases hk : SetM.has ak m
            · obtain ⟨k1', k2'⟩ := shr1 hm8 hk
              rw [hk] at a1' a2'
              have HE : Hid (r.lk m = N.lk m) := Lib.hid (by rw [z0, hNl])
              clear hNl hlo hout hwas
              go_wp2
              go_roundw
              case rel => exact ⟨m + 1, d, by omega, by go_num, Lib.hid (HH.out.skip hmt HE.out), HB.out⟩
              case measure => simp [intOf]; omega
            · obtain ⟨k1', k2'⟩ := shr1 hm8 hk
              rw [hk] at a1' a2'
              have HE : Hid (r.lk m = N.lk m) := Lib.hid (by rw [z0, hNl])
              clear hNl hlo hout hwas
              go_wp2
              go_roundw
              case rel => exact ⟨m + 1, d, by omega, by go_num, Lib.hid (HH.out.skip hmt HE.out), HB.out⟩
              case measure => simp [intOf]; omega
          · obtain ⟨b1', b2'⟩ := shr1 hm8 hw
            cases hk : SetM.has ak m
            · obtain ⟨k1', k2'⟩ := shr1 hm8 hk
              rw [hk] at a1' a2'
              rw [hw, hk, if_pos (show (true && !false) = true from rfl)] at hNl
              have HE : Hid ((busAt T.buses m).lock = N.lk m) := Lib.hid (by exact hNl.symm)
              clear hNl hlo hout hwas
              go_wp2
              go_roundw
              case rel => exact ⟨m + 1, d.put m ((busAt T.buses m).lock), by omega, by go_num, Lib.hid (HH.out.put hmt HE.out), by rw [← dC_put d hmt]; exact HB.out.set 0 m rfl _⟩
              case measure => simp [intOf]; omega
            · obtain ⟨k1', k2'⟩ := shr1 hm8 hk
              rw [hk] at a1' a2'
              rw [hw, hk, if_neg (by simp)] at hNl
              have HE : Hid (r.lk m = N.lk m) := Lib.hid (by rw [z0, hNl])
              clear hNl hlo hout hwas
              go_wp2
              go_roundw
              case rel => exact ⟨m + 1, d, by omega, by go_num, Lib.hid (HH.out.skip hmt HE.out), HB.out⟩
              case measure => simp [intOf]; omega
        · obtain rfl : m = 4 := by omega
          have e4 := HH.out.full
          rw [e4] at HB
          have qa : ∀ y : QB.By wr.heap.size wr, y.world.cell? (x.add q) = some (I ak) := fun y => HXC.out _ (HB.out.by y).bel
          have HV := Lib.hid HB.out.bel
          have hNw := HN.out.2.1
          have HNI := Lib.hid HN.out.1
          clear e4 HH
          go_upto_region 21 with fail
          refine QT.region wr.heap.size 7 (by kernel_rfl) (by kernel_rfl) ?_
          simp only [List.take_succ_cons, List.take_zero]
          repeat first
            | (refine wpQuiet_load rfl 31 _ rfl ⟨tb, 0, none⟩ rfl c _ (fun w' ⟨pw, e⟩ => by rw [e]; exact A1.out _ (HB.out.by pw).bel) Tryd.underlying31 rfl IA.out ?_
               dsimp only [Act.put]
               simp only [List.setIfInBounds_toArray, List.set_cons_zero, List.set_cons_succ])
            | (refine wpQuiet_load rfl 34 _ rfl ⟨gs, 0, none⟩ rfl r.cells _ (fun w' ⟨pw, e⟩ => by rw [e]; exact seg (HB.out.by pw) 1 0 rfl _ rfl) Tryd.underlying34 rfl infoRd ?_
               dsimp only [Act.put]
               simp only [List.setIfInBounds_toArray, List.set_cons_zero, List.set_cons_succ])
            | (quiet_step (first | (go_at_call 16; with_reducible exact QB.call_of (Nat.le_refl _) (fun b => S1.out _ (HV.out.trans (b.mono HV.out.size))))))
          refine wpQuiet_nil ?_
          intro _ hw'
          obtain ⟨pq, rfl⟩ := hw'
          have HP := Lib.hid (HB.out.by pq)
          generalize pq.world = vp at HP ⊢
          simp only [List.drop_succ_cons, List.drop_zero]
          clear qa HV HB S1
          go_wp2_with (refine wpList_store_row rfl 34 _ _ rfl gs N.cells.toArray rfl rfl 34 _ (HP.out.at 1 rfl) infoRd rfl (one_rd _) ?_)
          have hput := HP.out.put 1 rfl N.cells.toArray
          simp only [List.set_cons_succ, List.set_cons_zero] at hput
          generalize World.setRow vp gs _ = v3 at hput ⊢
          have H3 := Lib.hid hput
          clear hput
          clear HP
          rw [← hNw]
          go_wp2
          go_roundw
          case rel => exact ⟨q + 1, N, by omega, by go_num, rfl, HNI, H3.out⟩
          case measure => simp [intOf]; omega
    · obtain rfl : q = M1.length := by omega
      have c5 : wr.cell? ⟨gs, 5, none⟩ = some (I r.sp) := HB.out.cell 1 5 rfl rfl
      rw [HI.out.sp] at c5
      go_wp2_with fail
      refine (AW.out _ HB.out.bel).mono ?_
      rintro e w9 ⟨rfl, b9⟩
      go_wp2
      go_ret
      exact ⟨rfl, A0.out.trans ((HB.out.step b9).bel.mono A0.out.size)⟩
/-! ### the row's step -/
theorem lifted (os : Os) (started : os.Started) (H : Type) (enc : TypeId × Value → H) :
    ReturnsInHanded {} Tryd.checked os 5 .any (fun w args => (Rows.transitLocksSpec.pre enc Tryd.prog Tryd.f5 Rows.transitLocksRow.domain false w args ∧ laidMetH Tryd.prog Rows.transitLocksRow.laid w) ∧ sizedMet enc Tryd.prog Tryd.f5 (OpenSpec.ofChange Rows.transitLocksSpec) false w args) (Rows.transitLocksSpec.post enc Tryd.prog Tryd.f5 false true false false) := by
  refine returnsInHanded_of_change_and (C := Tryd.checked) (X := fun w _ => laidMetH Tryd.prog Rows.transitLocksRow.laid w) (fun _ _ _ hh h => h.of_heap hh) own started (by kernel_rfl) Tryd.func5
    (ChangeSpec.witness_shaped (enc := enc) (C := Tryd.checked) (os := os) (X := fun w _ => laidMetH Tryd.prog Rows.transitLocksRow.laid w) false (World.doorLaid Tryd.prog 19 os) #[.slice none 0 0, .slice none 0 0] 8 rfl (World.shaped_of_RefB (by kernel_rfl) (by kernel_rfl)) (by kernel_rfl) (by kernel_rfl) (by kernel_rfl) (TrZ.door_met os _)) ?_
  intro W base args ds gs before hval0 hW _ _ hL _
  have hval : ∀ (j : Nat) t v, Tryd.f5.params[j]? = some t → args[j]? = some v → Value.okWide Tryd.prog W .any base t v := hval0
  have hW' := hW
  obtain ⟨p, q, hA0, hV, rfl, hfz, hnd⟩ := hW
  have hA : DataW.TrodAll enc Tryd.prog W 0 (fun _ => true) true Tryd.f5.params.toList args.toList ds p := hA0
  rw [Tryd.params5] at hA hval
  obtain ⟨v0, vs0, d0, ds0, p0, q0, hargs, rfl, rfl, h0, r0⟩ := trodAll_cons hA
  obtain ⟨v1, vs1, d1, ds1, p1, q1, rfl, rfl, rfl, h1, r1⟩ := trodAll_cons r0
  obtain ⟨rfl, rfl, rfl⟩ := trodAll_nil r1
  obtain rfl : args = #[v0, v1] := by cases args; simp_all
  obtain ⟨rfl, rfl⟩ := trodVars_none hV
  obtain ⟨a0, len0, cap0, rfl⟩ := okWide_slice Tryd.underlying47 (hval 0 47 v0 rfl rfl)
  have k0 := h0
  have lt0 : ∀ x ∈ p0, x.block < W.heap.size := by obtain ⟨m, hm⟩ := k0; exact DataW.trod_lt m _ _ _ hm
  obtain ⟨z0, w0⟩ : ∃ zs, IsRow .i64 W a0 len0 cap0 zs := by
    obtain ⟨fuel, hf⟩ := h0
    rcases open_ints Tryd.underlying47 Tryd.underlying3 (by kernel_rfl) hf with ⟨hcs, _⟩ | ⟨x, l, c, zs, hcs, _, hl, hm, hz, _, hcell, hwz⟩
    · simp [Value.cells] at hcs
      obtain ⟨rfl, rfl, rfl⟩ := hcs
      exact ⟨[], .inl ⟨rfl, rfl, rfl, rfl⟩⟩
    · simp [Value.cells] at hcs
      obtain ⟨rfl, rfl, rfl⟩ := hcs
      exact ⟨zs, .inr ⟨_, rfl, hl, hm, by simpa using hz, hcell, hwz⟩⟩
  obtain ⟨a1, len1, cap1, rfl⟩ := okWide_slice Tryd.underlying47 (hval 1 47 v1 rfl rfl)
  have k1 := h1
  have lt1 : ∀ x ∈ p1, x.block < W.heap.size := by obtain ⟨m, hm⟩ := k1; exact DataW.trod_lt m _ _ _ hm
  obtain ⟨z1, w1⟩ : ∃ zs, IsRow .i64 W a1 len1 cap1 zs := by
    obtain ⟨fuel, hf⟩ := h1
    rcases open_ints Tryd.underlying47 Tryd.underlying3 (by kernel_rfl) hf with ⟨hcs, _⟩ | ⟨x, l, c, zs, hcs, _, hl, hm, hz, _, hcell, hwz⟩
    · simp [Value.cells] at hcs
      obtain ⟨rfl, rfl, rfl⟩ := hcs
      exact ⟨[], .inl ⟨rfl, rfl, rfl, rfl⟩⟩
    · simp [Value.cells] at hcs
      obtain ⟨rfl, rfl, rfl⟩ := hcs
      exact ⟨zs, .inr ⟨_, rfl, hl, hm, by simpa using hz, hcell, hwz⟩⟩
  clear hA0 hval0
  refine (walk a0 len0 cap0 z0 a1 len1 cap1 z1 W w0 w1 (TrZ.of_laid hL)).mono fun e W' ⟨he, bel⟩ => ?_
  subst he
  exact ⟨_, rfl, _, _, _, [], _, [], hW', trodAll_mk1 (shut_bool Tryd.underlying4 _), (trodAll_cons_mk (Below.trod laidOut (by kernel_rfl) (of_decide_eq_true (by kernel_rfl)) k0 bel lt0) (trodAll_cons_mk (Below.trod laidOut (by kernel_rfl) (of_decide_eq_true (by kernel_rfl)) k1 bel lt1) trodAll_mk0)), rfl, bel.frame _, fun h => by cases h⟩
theorem over : Rows.transitLocksRow.holds Tryd.pinned (OpenSpec.ofChange Rows.transitLocksSpec) :=
  OpenClaim.holds_of_wide 5 Tryd.f5 rfl rfl rfl rfl rfl rfl rfl ⟨rfl, rfl, rfl, rfl, rfl⟩ rfl rfl rfl rfl rfl (by kernel_rfl) Tryd.func5 (by kernel_rfl)
    (of_decide_eq_true (by kernel_rfl)) (by unfold Func.isWrapper; first | (rw [if_pos (by decide +kernel)]; kernel_rfl) | (rw [if_neg (by decide +kernel)]; exact ⟨rfl, rfl⟩))
    (fun os started H enc _ => lifted os started H enc)
/-- the statement: the tied card -/
theorem proved : Rows.TransitLocksCardSaid :=
  Claim7.holds_tied_plain_at .later [] Rows.transitLocksCard.laidKinds true Rows.transitLocksCard.stood.harness Rows.transitLocksCard.stood.looks
    over (fun _ h => by cases h) (by kernel_rfl) (fun _ h => by cases h) transitLocks_row_tie rfl ⟨rfl, rfl⟩ (by kernel_rfl) rfl
    (fun f fn hf hfn => by
      obtain rfl : f = 5 := Option.some.inj ((show Tryd.prog.funcNamed "crossbuck/crossbucklaw20.TransitLocks" = some 5 by kernel_rfl).symm.trans hf) |>.symm
      obtain rfl : fn = Tryd.f5 := (Option.some.inj (Tryd.func5.symm.trans hfn)).symm
      exact ⟨by kernel_rfl, fun j t ht => by
        have hm : t ∈ Tryd.f5.params.toList := Array.mem_toList_iff.2 (Array.mem_of_getElem? ht)
        have hall : (Tryd.f5.params.toList.all fun u => !Tryd.prog.wantsStandIn u) = true := by kernel_rfl
        have h1 := List.all_eq_true.1 hall t hm
        exact (show Tryd.prog.wantsStandIn t = false by simpa using h1)⟩)
    (by kernel_rfl)
#print axioms proved
end transitLocks
end Go.Proofs.YtkccepdifgldeaaDoor
