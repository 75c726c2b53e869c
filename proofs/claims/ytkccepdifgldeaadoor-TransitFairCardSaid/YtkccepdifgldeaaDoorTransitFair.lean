/- TransitFair returns true at any numbers of a table, any state, any runs and any set of asking buses: who is held is Green, asked for and not yet held as long as may be; who has to end early is not asked for by that bus. No condition but what the card ties: math/bits' tables. -/
import Derived.Test.YtkccepdifgldeaaDoorRows
import Derived.Test.YtkccepdifgldeaaDoorTie
import Derived.Test.YtkccepdifgldeaaDoorCards
import Derived.Test.YtkccepdifgldeaaDoorPart02
import Derived.Test.YtkccepdifgldeaaDoorPart01
import Derived.Test.YtkccepdifgldeaaDoorPart03
import Derived.Deep.Cut
import Derived.LoopTactic
import Derived.BigQuiet
import Derived.Test.YtkccepdifgldeaaDoorPart08
import Derived.Test.YtkccepdifgldeaaDoorPart09
import Derived.Test.YtkccepdifgldeaaDoorPart07
import Derived.Deep.CutRange
import Derived.Test.YtkccepdifgldeaaDoorPart10
import Derived.WalkKit
import Derived.WalkLawsBesides
import Derived.ProofKit
import Derived.OpenShut
import Derived.ShutString
import Derived.ChangeOld
import Derived.Below
set_option linter.unusedVariables false
set_option linter.unusedSimpArgs false
set_option linter.unusedSectionVars false
set_option maxHeartbeats 8000000
set_option maxRecDepth 100000
namespace Go.Proofs.YtkccepdifgldeaaDoor
namespace transitFair
open Go.ChangeShapes Go.WideShapes Go.ChangeAt Go.RowKit
open Tab Ru QL Rg PlanM Tr Held
open GenT (genTab)
theorem own : ownKnob Tryd.prog.godebug = none := by kernel_rfl
theorem laidOut : laidOutB Tryd.prog = true := by kernel_rfl
/-- WHAT THE WALK IS TOLD OF A SLICE OF INTEGERS THAT CAME IN: it is nil; or it leads to a row of 'cap' cells, the numbers 'zs' (the first 'len' are its elements, the rest its spare room), each fitting its kind. -/
def IsRow (k : IntKind) (w : World) (a : Option Addr) (len cap : Nat) (zs : List Int) : Prop :=
  (a = none ∧ len = 0 ∧ cap = 0 ∧ zs = []) ∨
  ∃ x, a = some x ∧ len ≤ cap ∧ cap ≤ maxLen ∧ zs.length = cap ∧ (∀ i, i < zs.length → w.cell? (x.add i) = some (.int k (zs.getD i 0))) ∧ ∀ n ∈ zs, (Lit.int k n).wf = true
theorem isRow_int {w : World} {a : Option Addr} {len cap : Nat} {zs : List Int} (h : IsRow .i64 w a len cap zs) : (zs.take len).length = len ∧ Tab.IntRow w ⟨a, cap⟩ (zs.take len) := by
  rcases h with ⟨rfl, rfl, rfl, rfl⟩ | ⟨x, rfl, h1, h2, h3, h4, _⟩
  · exact ⟨rfl, .inl ⟨rfl, rfl, rfl⟩⟩
  · have hl : (zs.take len).length = len := by rw [List.length_take]; omega
    refine ⟨hl, .inr ⟨x, rfl, by rw [hl]; exact h1, h2, fun i v hv j u hu => ?_⟩⟩
    have hi : i < len := by have := (List.getElem?_eq_some_iff.1 hv).1; omega
    match j, hu with
    | 0, hu =>
      simp at hu
      subst hu
      rw [List.getElem?_take, if_pos hi] at hv
      have := h4 i (by omega)
      rw [List.getD_eq_getElem?_getD, hv] at this
      rw [Nat.mul_one, Tab.add_two, Nat.add_zero]
      exact this
    | j + 1, hu => simp at hu
theorem row_cell {w : World} {a : Option Addr} {cap : Nat} {l : List Int} (h : Tab.IntRow w ⟨a, cap⟩ l) {j : Nat} (hj : j < l.length) : ∃ x, a = some x ∧ w.cell? (x.add j) = some (I (l.getD j 0)) := by
  have := h.at (i := j) (v := l.getD j 0) (by rw [List.getD_eq_getElem?_getD, List.getElem?_eq_getElem hj]; rfl)
  exact this
/-! ### the walk -/
theorem walk (a0 : Option Addr) (len0 cap0 : Nat) (z0 : List Int) (x1 : Tr.Rid) (x2 : List Ru.Ru) (a3 : Int) (w : World) (w0 : IsRow .i64 w a0 len0 cap0 z0) (w2 : x2.length = 8) (w3 : (Lit.int .i64 a3).wf = true) (db : Tr.DB w) :
    Calls Tryd.prog 7 #[.slice a0 len0 cap0, .agg x1.cells.toArray, .agg (Rg.runsC x2).toArray, .int .i64 a3] w fun e w' => e = .returned (.bool true) ∧ Below w.heap.size w w' := by
  obtain ⟨hlen, hrow⟩ := isRow_int w0
  obtain ⟨L, hL⟩ : ∃ L, L = z0.take len0 := ⟨_, rfl⟩
  rw [← hL] at hlen hrow
  clear hL w0
  subst hlen
  have hz := (zero_of_info GenT.infoTz).1
  have hZs : (Clone.zTab.cells Clone.zHd).length = 131 := rfl
  generalize hZ : GenT.zTab.cells GenT.zHd = Z at *
  have ZS : Z.toArray.size = 131 := by rw [← hZ]; rfl
  clear hZ hZs
  have GB : Hid (_) := Lib.hid (gen_bus L)
  have hn0 := Blk.Bks.nil w
  have hn1 := hn0.alloc x1.cells.toArray 34
  have hn2 := hn1.alloc (runsC x2).toArray 41
  rw [show (w.alloc (.cells x1.cells.toArray 34)).heap.size = w.heap.size + 1 by simp] at hn2
  clear hn0 hn1
  go_enter Tryd.func7, Tryd.ntmps7
  go_upto_region 1 with fail
  generalize World.alloc (World.alloc w _) _ = v0 at hn2 ⊢
  replace hrow := RowOf.below hrow hn2.bel
  generalize hg1 : w.heap.size + 1 = gn at hn2 ⊢
  generalize hg0 : w.heap.size = gs at hn2 ⊢
  have H0 := Lib.hid hn2
  clear hn2 hg0 hg1
  go_wp2_with fail
  refine (GenT.table_any a0 cap0 L v0 hrow).mono ?_
  rintro e u0 ⟨hd, rfl, ht, hb⟩
  have CS := GenT.cells_cut hd ht.ph ht.cf ht.fl
  have ONE := (cells_ok ht).one
  have T8 := Lib.hid ht.ph
  have HT : Hid (∀ W, Below u0.heap.size u0 W → IsTab W hd (genTab L)) := Lib.hid (fun W hb => ht.below hb)
  have B0 := Lib.hid hb
  have IA : Hid ((Tryd.prog.info? 31).map (·.size) = some ((genTab L).cells hd).length) := Lib.hid (by rw [CS]; exact May.infoT)
  clear hb ht
  generalize hc : (genTab L).cells hd = c at *
  have HC := Lib.hid hc
  clear hc
  go_upto_region 2 with (refine Row.wpList_store_new rfl 31 _ _ rfl u0 Z.toArray c.toArray rfl rfl rfl (by rw [List.size_toArray]; exact IA.out) (by rw [ZS, List.size_toArray, CS]) ONE ?_)
  have hb2 : Below u0.heap.size u0 (u0.alloc (.cells c.toArray 31)) := (Below.refl _ _).alloc (Nat.le_refl _) _
  have hl : Lies (u0.alloc (.cells c.toArray 31)) ⟨u0.heap.size, 0, none⟩ c := Row.lies_new _ _ _
  have TB0 : Hid (∀ W, Below (u0.alloc (.cells c.toArray 31)).heap.size (u0.alloc (.cells c.toArray 31)) W → IsTab W hd (genTab L)) := Lib.hid (fun W hb => HT.out W (hb2.trans (hb.mono hb2.size)))
  generalize u0.alloc (.cells c.toArray 31) = u at hb2 hl TB0 ⊢
  have TB : Hid (∀ W, Below u.heap.size u W → IsTab W hd (genTab L)) := TB0
  have A0 : Hid (Below v0.heap.size v0 u) := Lib.hid (B0.out.trans (hb2.mono B0.out.size))
  have A1 : Hid (∀ W, Below u.heap.size u W → Lies W ⟨u0.heap.size, 0, none⟩ c) := Lib.hid (fun W hb => Lies.below hl hb)
  clear hb2 hl TB0 HT B0 hrow hz ZS ONE CS
  generalize u0.heap.size = tb at *
  generalize genTab L = T at *
  have H1 := Lib.hid (H0.out.step A0.out)
  clear H0 A0
  have DB0 : Hid (∀ W, Below u.heap.size u W → DB W) := Lib.hid (fun W hb => db.below (H1.out.bel.trans (hb.mono H1.out.bel.size)))
  have AW : Hid (∀ W, Below u.heap.size u W → Calls Tryd.prog 9 #[] W fun e w' => e = .returned (.bool true) ∧ Below W.heap.size W w') := Lib.hid (fun W hb => awake_any W (DB0.out W hb))
  have CB : Hid (c[115]? = some (.slice hd.b.a T.buses.length hd.b.cap)) := Lib.hid (by rw [← HC.out]; exact tab_bu (TB.out u (Below.refl _ _)))
  have BUS : Hid (∀ q, q < T.buses.length → ∀ W, Below u.heap.size u W → ∃ x, hd.b.a = some x ∧ W.cell? (x.add (q * 2)) = some (I (busAt T.buses q).set)) := Lib.hid (fun q hq W hb => by
    obtain ⟨x, h1, h2⟩ := (TB.out W hb).buses.at (bus_at hq)
    have c0 := h2 0 _ rfl
    rw [Tab.add_zero] at c0
    exact ⟨x, h1, c0⟩)
  have KB : Hid (∀ W, Below u.heap.size u W → W.cell? ⟨tb, 115, none⟩ = some (.slice hd.b.a T.buses.length hd.b.cap)) := Lib.hid (fun W hb => by
    have := A1.out W hb 115 _ CB.out
    rwa [Addr.add_mid, Nat.zero_add] at this)
  have CE : Hid (c[116]? = some (I T.extend)) := Lib.hid (by rw [← HC.out]; exact tab_ex (TB.out u (Below.refl _ _)))
  have KE : Hid (∀ W, Below u.heap.size u W → W.cell? ⟨tb, 116, none⟩ = some (I T.extend)) := Lib.hid (fun W hb => by
    have := A1.out W hb 116 _ CE.out
    rwa [Addr.add_mid, Nat.zero_add] at this)
  have CD : Hid (c[117]? = some (I T.budget)) := Lib.hid (by rw [← HC.out]; exact tab_bd (TB.out u (Below.refl _ _)))
  have KD : Hid (∀ W, Below u.heap.size u W → W.cell? ⟨tb, 117, none⟩ = some (I T.budget)) := Lib.hid (fun W hb => by
    have := A1.out W hb 117 _ CD.out
    rwa [Addr.add_mid, Nat.zero_add] at this)
  have NB : nB T.buses = T.buses.length := Nat.min_eq_left GB.out.1
  have N4 : Hid (T.buses.length ≤ 4) := Lib.hid GB.out.1
  have E1 := early_dual T x1 x2 a3
  have E2 : Hid (∀ p : Nat, SetM.has (holdS T x1 x2 a3 : Nat) p = true → SetM.has (bits .and .i64 (suS T.buses (liveS T x1 a3 : Nat) (nB T.buses)) (thS grB x2 : Nat)) p = true ∧ (ruAt x2 p).ex < T.extend) := Lib.hid (fun p h => hold_fair h)
  have E3 : Hid (((liveS T x1 a3 : Nat) : Int) = 0 → ((holdS T x1 x2 a3 : Nat) : Int) = 0 ∧ earlyS T x1 x2 a3 = 0) := Lib.hid (fun h => fair_zero h)
  have E4 : Hid (T.budget ≤ x1.sp → ((holdS T x1 x2 a3 : Nat) : Int) = 0) := Lib.hid (fun h => hold_spent h)
  have C1 : Hid (∀ W, Below u.heap.size u W → Calls Tryd.prog 10 #[.agg c.toArray, .agg x1.cells.toArray, .int .i64 a3] W fun e w' => e = .returned (.int .i64 (liveS T x1 a3 : Nat)) ∧ Below W.heap.size W w') := Lib.hid (fun W hb => by rw [← HC.out]; exact live_any T hd x1 a3 W (TB.out W hb) (DB0.out W hb))
  have C2 : Hid (∀ W, Below u.heap.size u W → Calls Tryd.prog 12 #[.agg c.toArray, .agg x1.cells.toArray, .agg (runsC x2).toArray, .int .i64 a3] W fun e w' => e = .returned (.int .i64 (holdS T x1 x2 a3 : Nat)) ∧ Below W.heap.size W w') := Lib.hid (fun W hb => by rw [← HC.out]; exact hold_any T hd x1 x2 a3 W (TB.out W hb) (DB0.out W hb) w2)
  have C3 : Hid (∀ W, Below u.heap.size u W → Calls Tryd.prog 14 #[.agg c.toArray, .agg x1.cells.toArray, .agg (runsC x2).toArray, .int .i64 a3] W fun e w' => e = .returned (.int .i64 (earlyS T x1 x2 a3)) ∧ Below W.heap.size W w') := Lib.hid (fun W hb => by rw [← HC.out]; exact early_any T hd x1 x2 a3 W (TB.out W hb) (DB0.out W hb) w2)
  have C4 : Hid (∀ W, Calls Tryd.prog 20 #[.agg (runsC x2).toArray] W fun e w' => e = .returned (.int .i64 (thS grB x2 : Nat)) ∧ Below W.heap.size W w') := Lib.hid (fun W => rgreen_any x2 w2 W)
  have IR : (Tryd.prog.info? 41).map (·.size) = some (runsC x2).length := by rw [runs_len, w2]; exact infoRs
  have RC : Hid (∀ p : Nat, p < 8 → (runsC x2).toArray[p * 12 + 6]? = some (I (ruAt x2 p).ex)) := Lib.hid (fun p hp => by rw [List.getElem?_toArray]; exact runs_at w2 hp (j := 6) rfl)
  rw [NB] at E1
  rw [NB] at E2
  generalize ((liveS T x1 a3 : Nat) : Int) = live at *
  generalize ((holdS T x1 x2 a3 : Nat) : Int) = hv at *
  generalize earlyS T x1 x2 a3 = ev at *
  generalize ((thS grB x2 : Nat) : Int) = gr at *
  have F0 : Hid (suS T.buses live 0 = 0 ∧ slS T.buses live gr 0 = 255) := Lib.hid ⟨rfl, rfl⟩
  have F1 : Hid (∀ q : Nat, SetM.has live q = false → suS T.buses live (q + 1) = suS T.buses live q ∧ slS T.buses live gr (q + 1) = slS T.buses live gr q) := Lib.hid (fun q h => ⟨su_miss h, sl_miss h⟩)
  have F2 : Hid (∀ q : Nat, SetM.has live q = true → suS T.buses live (q + 1) = bits .or .i64 (suS T.buses live q) (busAt T.buses q).set) := Lib.hid (fun q h => su_hit h)
  have F3 : Hid (∀ q : Nat, SetM.has live q = true → bits .and .i64 (busAt T.buses q).set gr = 0 → slS T.buses live gr (q + 1) = bits .and .i64 (slS T.buses live gr q) (busAt T.buses q).set) := Lib.hid (fun q h h2 => sl_hit h h2)
  have F4 : Hid (∀ q : Nat, SetM.has live q = true → ¬ bits .and .i64 (busAt T.buses q).set gr = 0 → slS T.buses live gr (q + 1) = slS T.buses live gr q) := Lib.hid (fun q h h2 => sl_out h h2)
  generalize suS T.buses live = SU at *
  generalize slS T.buses live gr = SL at *
  have E1' := Lib.hid E1
  clear E1 NB CB CE CD TB HC T8 GB DB0 w2
  go_wp2_with (first | (refine Row.wpList_load_g 31 _ rfl (by first | rfl | (go_simp; done) | fail) ⟨tb, 0, none⟩ rfl c _ (A1.out _ (Below.refl _ _)) Tryd.underlying31 rfl IA.out ?_) | (refine Row.wpList_load_g 34 _ rfl (by first | rfl | (go_simp; done) | fail) ⟨gs, 0, none⟩ rfl x1.cells _ (seg H1.out 1 0 rfl _ rfl) Tryd.underlying34 rfl infoRd ?_))
  refine (C1.out _ (Below.refl _ _)).mono ?_
  rintro e v1 ⟨rfl, b1⟩
  have H2 := Lib.hid (H1.out.step b1)
  have B1 := Lib.hid b1
  clear b1 H1 C1
  go_wp2_with (first | (refine Row.wpList_load_g 31 _ rfl (by first | rfl | (go_simp; done) | fail) ⟨tb, 0, none⟩ rfl c _ (A1.out _ B1.out) Tryd.underlying31 rfl IA.out ?_) | (refine Row.wpList_load_g 34 _ rfl (by first | rfl | (go_simp; done) | fail) ⟨gs, 0, none⟩ rfl x1.cells _ (seg H2.out 1 0 rfl _ rfl) Tryd.underlying34 rfl infoRd ?_) | (refine Row.wpList_load_g 41 _ rfl (by first | rfl | (go_simp; done) | fail) ⟨gn, 0, none⟩ rfl (runsC x2) _ (by have := H2.out.lies 0 rfl; simpa using this) Tryd.underlying41 rfl IR ?_))
  refine (C2.out _ B1.out).mono ?_
  rintro e v2 ⟨rfl, b2⟩
  have H3 := Lib.hid (H2.out.step b2)
  have B2 := Lib.hid (B1.out.trans (b2.mono B1.out.size))
  clear b2 H2 B1 C2
  go_wp2_with (first | (refine Row.wpList_load_g 31 _ rfl (by first | rfl | (go_simp; done) | fail) ⟨tb, 0, none⟩ rfl c _ (A1.out _ B2.out) Tryd.underlying31 rfl IA.out ?_) | (refine Row.wpList_load_g 34 _ rfl (by first | rfl | (go_simp; done) | fail) ⟨gs, 0, none⟩ rfl x1.cells _ (seg H3.out 1 0 rfl _ rfl) Tryd.underlying34 rfl infoRd ?_) | (refine Row.wpList_load_g 41 _ rfl (by first | rfl | (go_simp; done) | fail) ⟨gn, 0, none⟩ rfl (runsC x2) _ (by have := H3.out.lies 0 rfl; simpa using this) Tryd.underlying41 rfl IR ?_))
  refine (C3.out _ B2.out).mono ?_
  rintro e v3 ⟨rfl, b3⟩
  have H4 := Lib.hid (H3.out.step b3)
  have B3 := Lib.hid (B2.out.trans (b3.mono B2.out.size))
  clear b3 H3 B2 C3
  go_wp2_with (first | (refine Row.wpList_load_g 31 _ rfl (by first | rfl | (go_simp; done) | fail) ⟨tb, 0, none⟩ rfl c _ (A1.out _ B3.out) Tryd.underlying31 rfl IA.out ?_) | (refine Row.wpList_load_g 34 _ rfl (by first | rfl | (go_simp; done) | fail) ⟨gs, 0, none⟩ rfl x1.cells _ (seg H4.out 1 0 rfl _ rfl) Tryd.underlying34 rfl infoRd ?_) | (refine Row.wpList_load_g 41 _ rfl (by first | rfl | (go_simp; done) | fail) ⟨gn, 0, none⟩ rfl (runsC x2) _ (by have := H4.out.lies 0 rfl; simpa using this) Tryd.underlying41 rfl IR ?_))
  refine (C4.out _).mono ?_
  rintro e v4 ⟨rfl, b4⟩
  have H5 := Lib.hid (H4.out.step b4)
  have B4 := Lib.hid (B3.out.trans (b4.mono B3.out.size))
  clear b4 H4 B3 C4
  have HU : Hid (Below w.heap.size w v4) := Lib.hid H5.out.bel
  go_wp2
  go_loopw [14, 15, 16] (fun s a k wr => ∃ q : Nat, q ≤ T.buses.length ∧ k = .int .i64 q ∧ Hid (Below v4.heap.size v4 wr) ∧ s = .int .i64 (SU q) ∧ a = .int .i64 (SL q)) (fun _ _ k _ => T.buses.length - (intOf k).toNat)
  case atStart => exact ⟨0, by omega, rfl, Lib.hid (Below.refl _ _), by rw [F0.out.1], by rw [F0.out.2]⟩
  case round =>
    obtain ⟨q, hq, rfl, HB, rfl, rfl⟩ := hrel
    have hn4 := N4.out
    by_cases hlt : q < T.buses.length
    · have g1 : (q : Int) < (T.buses.length : Int) := by omega
      have m2 : (q : Int) < 64 := by omega
      have hq8 : q < 8 := by omega
      have HW := Lib.hid (B4.out.trans (HB.out.mono B4.out.size))
      have cb := KB.out wr HW.out
      obtain ⟨x, hx, c0⟩ := BUS.out q hlt wr HW.out
      rw [hx] at cb
      cases hk : SetM.has live q
      · obtain ⟨a1', a2'⟩ := shr1 hq8 hk
        have HS := Lib.hid (F1.out q hk)
        clear hk
        go_wp2
        go_roundw
        case rel => exact ⟨q + 1, by omega, by go_num, HB, by rw [HS.out.1], by rw [HS.out.2]⟩
        case measure => simp [intOf]; omega
      · obtain ⟨a1', a2'⟩ := shr1 hq8 hk
        have HS := Lib.hid (F2.out q hk)
        by_cases hz : bits .and .i64 (busAt T.buses q).set gr = 0
        · have z1 : (bits .and .i64 (busAt T.buses q).set gr == 0) = true := beq_iff_eq.2 hz
          have HL := Lib.hid (F3.out q hk hz)
          clear hk hz
          go_wp2
          go_roundw
          case rel => exact ⟨q + 1, by omega, by go_num, HB, by rw [HS.out], by rw [HL.out]⟩
          case measure => simp [intOf]; omega
        · have z1 : (bits .and .i64 (busAt T.buses q).set gr == 0) = false := beq_eq_false_iff_ne.2 hz
          have HL := Lib.hid (F4.out q hk hz)
          clear hk hz
          go_wp2
          go_roundw
          case rel => exact ⟨q + 1, by omega, by go_num, HB, by rw [HS.out], by rw [HL.out]⟩
          case measure => simp [intOf]; omega
    · have g1 : ¬ (q : Int) < (T.buses.length : Int) := by omega
      have HW := Lib.hid (B4.out.trans (HB.out.mono B4.out.size))
      have cb := KB.out wr HW.out
      obtain rfl : q = T.buses.length := by omega
      generalize SU T.buses.length = su at *
      generalize SL T.buses.length = sl at *
      clear F0 F1 F2 F3 F4 BUS KB N4 hq hn4
      have HX := Lib.hid (H5.out.step HB.out)
      clear HB H5 HU
      go_wp2
      clear cb g1 hlt
      go_loopw [17] (fun p wt => ∃ m : Nat, m ≤ 8 ∧ p = .int .i64 m ∧ Hid (Below wr.heap.size wr wt)) (fun p _ => 8 - (intOf p).toNat)
      case atStart => exact ⟨0, by omega, rfl, Lib.hid (Below.refl _ _)⟩
      case round =>
        rename World => wt
        obtain ⟨m, hm, rfl, HT⟩ := hrel
        have HY := Lib.hid (HX.out.step HT.out)
        have HV := Lib.hid (HW.out.trans (HT.out.mono HW.out.size))
        by_cases hmt : m < 8
        · have m1 : (m : Int) < 8 := by omega
          have q1 : ∀ y : QB.By wt.heap.size wt, y.world.cell? ⟨gn, m * 12 + 6, none⟩ = some (I (ruAt x2 m).ex) := fun y => (HY.out.by y).cell 0 (m * 12 + 6) rfl (RC.out m hmt)
          have q2 : ∀ y : QB.By wt.heap.size wt, y.world.cell? ⟨tb, 116, none⟩ = some (I T.extend) := fun y => KE.out _ (HV.out.trans (y.below.mono HV.out.size))
          cases hh : SetM.has hv m
          · have HH : Hid (∀ W, Calls Tryd.prog 19 #[.int .i64 hv, .int .i64 m] W fun e w' => e = .returned (.bool false) ∧ W = w') := Lib.hid (fun W => by rw [← hh]; exact RefS.rhas_any _ _ W)
            clear hh
            go_upto_region 17 with fail
            refine QB.region_below wt.heap.size (by kernel_rfl) (by kernel_rfl) ?_
            refine Wqs.W.out ?_
            refine Wqs.want (by kernel_rfl) (fun K hK => ?_)
            go_big_quiet_op
            refine hK _ ?_
            clear hK K
            refine Wqs.want (by kernel_rfl) (fun K hK => ?_)
            go_big_quiet_op
            refine hK _ ?_
            clear hK K
            refine Wqs.want (by kernel_rfl) (fun K hK => ?_)
            go_big_quiet_op
            apply Exists.intro
            refine ⟨fun _ => ?_, ?_⟩
            · (go_at_call 19; with_reducible exact QB.call_of (Nat.le_refl _) (fun b => (HH.out _).mono fun e w' h => ⟨h.1, h.2 ▸ Below.refl _ _⟩))
            refine hK _ ?_
            clear hK K
            refine Wqs.want (by kernel_rfl) (fun K hK => ?_)
            go_big_quiet_op
            refine hK _ ?_
            clear hK K
            refine Wqs.skip (by kernel_rfl) ?_
            dsimp only [Act.put]
            simp only [List.setIfInBounds_toArray, List.set_cons_zero, List.set_cons_succ]
            refine Wqs.skip (by kernel_rfl) ?_
            dsimp only [Act.put]
            simp only [List.setIfInBounds_toArray, List.set_cons_zero, List.set_cons_succ]
            refine Wqs.skip (by kernel_rfl) ?_
            dsimp only [Act.put]
            simp only [List.setIfInBounds_toArray, List.set_cons_zero, List.set_cons_succ]
            refine Wqs.skip (by kernel_rfl) ?_
            dsimp only [Act.put]
            simp only [List.setIfInBounds_toArray, List.set_cons_zero, List.set_cons_succ]
            refine Wqs.skip (by kernel_rfl) ?_
            dsimp only [Act.put]
            simp only [List.setIfInBounds_toArray, List.set_cons_zero, List.set_cons_succ]
            refine Wqs.skip (by kernel_rfl) ?_
            dsimp only [Act.put]
            simp only [List.setIfInBounds_toArray, List.set_cons_zero, List.set_cons_succ]
            refine Wqs.skip (by kernel_rfl) ?_
            dsimp only [Act.put]
            simp only [List.setIfInBounds_toArray, List.set_cons_zero, List.set_cons_succ]
            refine Wqs.skip (by kernel_rfl) ?_
            dsimp only [Act.put]
            simp only [List.setIfInBounds_toArray, List.set_cons_zero, List.set_cons_succ]
            refine Wqs.skip (by kernel_rfl) ?_
            dsimp only [Act.put]
            simp only [List.setIfInBounds_toArray, List.set_cons_zero, List.set_cons_succ]
            refine Wqs.skip (by kernel_rfl) ?_
            dsimp only [Act.put]
            simp only [List.setIfInBounds_toArray, List.set_cons_zero, List.set_cons_succ]
            refine Wqs.skip (by kernel_rfl) ?_
            dsimp only [Act.put]
            simp only [List.setIfInBounds_toArray, List.set_cons_zero, List.set_cons_succ]
            refine Wqs.skip (by kernel_rfl) ?_
            dsimp only [Act.put]
            simp only [List.setIfInBounds_toArray, List.set_cons_zero, List.set_cons_succ]
            refine Wqs.skip (by kernel_rfl) ?_
            dsimp only [Act.put]
            simp only [List.setIfInBounds_toArray, List.set_cons_zero, List.set_cons_succ]
            refine Wqs.skip (by kernel_rfl) ?_
            dsimp only [Act.put]
            simp only [List.setIfInBounds_toArray, List.set_cons_zero, List.set_cons_succ]
            refine Wqs.skip (by kernel_rfl) ?_
            dsimp only [Act.put]
            simp only [List.setIfInBounds_toArray, List.set_cons_zero, List.set_cons_succ]
            refine Wqs.want (by kernel_rfl) (fun K hK => ?_)
            go_big_quiet_op
            refine hK _ ?_
            clear hK K
            refine Wqs.nil ?_
            intro _ hw'
            obtain ⟨pq, rfl⟩ := hw'
            have HT2 := Lib.hid (HT.out.trans (pq.below.mono HT.out.size))
            generalize pq.world = vp at HT2 ⊢
            clear q1 q2 HH HV HY
            go_wp2
            go_roundw
            case rel => exact ⟨m + 1, by omega, by go_num, HT2⟩
            case measure => simp [intOf]; omega
          · obtain ⟨k1, k2⟩ := E2.out m hh
            have HH : Hid (∀ W, Calls Tryd.prog 19 #[.int .i64 hv, .int .i64 m] W fun e w' => e = .returned (.bool true) ∧ W = w') := Lib.hid (fun W => by rw [← hh]; exact RefS.rhas_any _ _ W)
            have HG : Hid (∀ W, Calls Tryd.prog 19 #[.int .i64 (bits .and .i64 su gr), .int .i64 m] W fun e w' => e = .returned (.bool true) ∧ W = w') := Lib.hid (fun W => by rw [← k1]; exact RefS.rhas_any _ _ W)
            have d1 : decide ((ruAt x2 m).ex ≥ T.extend) = false := decide_eq_false (by omega)
            have d2 : ¬ T.extend ≤ (ruAt x2 m).ex := by omega
            clear hh k1 k2
            generalize (ruAt x2 m).ex = ex at *
            go_upto_region 17 with fail
            refine QB.region_below wt.heap.size (by kernel_rfl) (by kernel_rfl) ?_
            refine Wqs.W.out ?_
            refine Wqs.want (by kernel_rfl) (fun K hK => ?_)
            go_big_quiet_op
            refine hK _ ?_
            clear hK K
            refine Wqs.want (by kernel_rfl) (fun K hK => ?_)
            go_big_quiet_op
            refine hK _ ?_
            clear hK K
            refine Wqs.want (by kernel_rfl) (fun K hK => ?_)
            go_big_quiet_op
            apply Exists.intro
            refine ⟨fun _ => ?_, ?_⟩
            · (go_at_call 19; with_reducible exact QB.call_of (Nat.le_refl _) (fun b => (HH.out _).mono fun e w' h => ⟨h.1, h.2 ▸ Below.refl _ _⟩))
            refine hK _ ?_
            clear hK K
            refine Wqs.want (by kernel_rfl) (fun K hK => ?_)
            go_big_quiet_op
            refine hK _ ?_
            clear hK K
            refine Wqs.want (by kernel_rfl) (fun K hK => ?_)
            go_big_quiet_op
            refine hK _ ?_
            clear hK K
            refine Wqs.want (by kernel_rfl) (fun K hK => ?_)
            go_big_quiet_op
            refine hK _ ?_
            clear hK K
            refine Wqs.want (by kernel_rfl) (fun K hK => ?_)
            go_big_quiet_op
            refine hK _ ?_
            clear hK K
            refine Wqs.want (by kernel_rfl) (fun K hK => ?_)
            go_big_quiet_op
            refine hK _ ?_
            clear hK K
            refine Wqs.want (by kernel_rfl) (fun K hK => ?_)
            go_big_quiet_op
            apply Exists.intro
            refine ⟨fun _ => ?_, ?_⟩
            · (go_at_call 19; with_reducible exact QB.call_of (Nat.le_refl _) (fun b => (HG.out _).mono fun e w' h => ⟨h.1, h.2 ▸ Below.refl _ _⟩))
            refine hK _ ?_
            clear hK K
            refine Wqs.want (by kernel_rfl) (fun K hK => ?_)
            go_big_quiet_op
            refine hK _ ?_
            clear hK K
            refine Wqs.want (by kernel_rfl) (fun K hK => ?_)
            go_big_quiet_op
            refine hK _ ?_
            clear hK K
            refine Wqs.want (by kernel_rfl) (fun K hK => ?_)
            go_big_quiet_op
            refine hK _ ?_
            clear hK K
            refine Wqs.want (by kernel_rfl) (fun K hK => ?_)
            go_big_quiet_op
            refine hK _ ?_
            clear hK K
            refine Wqs.want (by kernel_rfl) (fun K hK => ?_)
            go_big_quiet_op
            refine hK _ ?_
            clear hK K
            refine Wqs.want (by kernel_rfl) (fun K hK => ?_)
            go_big_quiet_op
            refine hK _ ?_
            clear hK K
            refine Wqs.want (by kernel_rfl) (fun K hK => ?_)
            go_big_quiet_op
            refine hK _ ?_
            clear hK K
            refine Wqs.want (by kernel_rfl) (fun K hK => ?_)
            go_big_quiet_op
            refine hK _ ?_
            clear hK K
            refine Wqs.want (by kernel_rfl) (fun K hK => ?_)
            go_big_quiet_op
            refine hK _ ?_
            clear hK K
            refine Wqs.want (by kernel_rfl) (fun K hK => ?_)
            go_big_quiet_op
            refine hK _ ?_
            clear hK K
            refine Wqs.want (by kernel_rfl) (fun K hK => ?_)
            go_big_quiet_op
            refine hK _ ?_
            clear hK K
            refine Wqs.nil ?_
            intro _ hw'
            obtain ⟨pq, rfl⟩ := hw'
            have HT2 := Lib.hid (HT.out.trans (pq.below.mono HT.out.size))
            generalize pq.world = vp at HT2 ⊢
            clear q1 q2 HH HG HV HY
            go_wp2
            go_roundw
            case rel => exact ⟨m + 1, by omega, by go_num, HT2⟩
            case measure => simp [intOf]; omega
        · have m1 : ¬ (m : Int) < 8 := by omega
          have c1 : wt.cell? ⟨gs, 5, none⟩ = some (I x1.sp) := HY.out.cell 1 5 rfl rfl
          have c2 := KD.out wt HV.out
          have e1 : (ev == bits .andNot .i64 255 sl) = true := beq_iff_eq.2 E1'.out
          by_cases hl : live = 0
          · obtain ⟨k1, k2⟩ := E3.out hl
            have l1 : (live != 0) = false := by rw [hl]; rfl
            have l2 : (hv == 0) = true := beq_iff_eq.2 k1
            have l3 : (ev == 0) = true := beq_iff_eq.2 k2
            clear hl k1 k2
            by_cases hs : x1.sp < T.budget
            · have hs' : decide (x1.sp < T.budget) = true := decide_eq_true hs
              go_wp2_with fail
              refine (AW.out _ HV.out).mono ?_
              rintro e w9 ⟨rfl, b9⟩
              go_wp2
              go_ret
              exact ⟨rfl, (HY.out.step b9).bel⟩
            · have hs' : decide (x1.sp < T.budget) = false := decide_eq_false hs
              go_wp2_with fail
              refine (AW.out _ HV.out).mono ?_
              rintro e w9 ⟨rfl, b9⟩
              go_wp2
              go_ret
              exact ⟨rfl, (HY.out.step b9).bel⟩
          · have l1 : (live != 0) = true := bne_iff_ne.2 hl
            clear hl
            by_cases hs : x1.sp < T.budget
            · have hs' : decide (x1.sp < T.budget) = true := decide_eq_true hs
              go_wp2_with fail
              refine (AW.out _ HV.out).mono ?_
              rintro e w9 ⟨rfl, b9⟩
              go_wp2
              go_ret
              exact ⟨rfl, (HY.out.step b9).bel⟩
            · have k1 := E4.out (show T.budget ≤ x1.sp by omega)
              have l2 : (hv == 0) = true := beq_iff_eq.2 k1
              have hs' : decide (x1.sp < T.budget) = false := decide_eq_false hs
              clear k1
              go_wp2_with fail
              refine (AW.out _ HV.out).mono ?_
              rintro e w9 ⟨rfl, b9⟩
              go_wp2
              go_ret
              exact ⟨rfl, (HY.out.step b9).bel⟩
/-! ### the row's step -/
theorem lifted (os : Os) (started : os.Started) (H : Type) (enc : TypeId × Value → H) :
    ReturnsInHanded {} Tryd.checked os 7 .any (fun w args => (Rows.transitFairSpec.pre enc Tryd.prog Tryd.f7 Rows.transitFairRow.domain false w args ∧ laidMetH Tryd.prog Rows.transitFairRow.laid w) ∧ sizedMet enc Tryd.prog Tryd.f7 (OpenSpec.ofChange Rows.transitFairSpec) false w args) (Rows.transitFairSpec.post enc Tryd.prog Tryd.f7 false true false false) := by
  refine returnsInHanded_of_change_and (C := Tryd.checked) (X := fun w _ => laidMetH Tryd.prog Rows.transitFairRow.laid w) (fun _ _ _ hh h => h.of_heap hh) own started (by kernel_rfl) Tryd.func7
    (ChangeSpec.witness_shaped (enc := enc) (C := Tryd.checked) (os := os) (X := fun w _ => laidMetH Tryd.prog Rows.transitFairRow.laid w) false (World.doorLaid Tryd.prog 19 os) #[.slice none 0 0, .agg (Tr.Rid.cells ⟨0, 0, 0, 0, 0, 0⟩).toArray, .agg (Rg.runsC (List.replicate 8 Rg.zRu)).toArray, .int .i64 0] 8 rfl (World.shaped_of_RefB (by kernel_rfl) (by kernel_rfl)) (by kernel_rfl) (by kernel_rfl) (by kernel_rfl) (TrZ.door_met os _)) ?_
  intro W base args ds gs before hval0 hW _ _ hL _
  have hval : ∀ (j : Nat) t v, Tryd.f7.params[j]? = some t → args[j]? = some v → Value.okWide Tryd.prog W .any base t v := hval0
  have hW' := hW
  obtain ⟨p, q, hA0, hV, rfl, hfz, hnd⟩ := hW
  have hA : DataW.TrodAll enc Tryd.prog W 0 (fun _ => true) true Tryd.f7.params.toList args.toList ds p := hA0
  rw [Tryd.params7] at hA hval
  obtain ⟨v0, vs0, d0, ds0, p0, q0, hargs, rfl, rfl, h0, r0⟩ := trodAll_cons hA
  obtain ⟨v1, vs1, d1, ds1, p1, q1, rfl, rfl, rfl, h1, r1⟩ := trodAll_cons r0
  obtain ⟨v2, vs2, d2, ds2, p2, q2, rfl, rfl, rfl, h2, r2⟩ := trodAll_cons r1
  obtain ⟨v3, vs3, d3, ds3, p3, q3, rfl, rfl, rfl, h3, r3⟩ := trodAll_cons r2
  obtain ⟨rfl, rfl, rfl⟩ := trodAll_nil r3
  obtain rfl : args = #[v0, v1, v2, v3] := by cases args; simp_all
  obtain ⟨rfl, rfl⟩ := trodVars_none hV
  obtain ⟨a0, len0, cap0, rfl⟩ := okWide_slice Tryd.underlying47 (hval 0 47 v0 rfl rfl)
  have k0 := h0
  have lt0 : ∀ x ∈ p0, x.block < W.heap.size := by obtain ⟨m, hm⟩ := k0; exact DataW.trod_lt m _ _ _ hm
  obtain ⟨z0, w0⟩ : ∃ zs, IsRow .i64 W a0 len0 cap0 zs := by
    obtain ⟨fuel, hf⟩ := h0
    rcases open_ints Tryd.underlying47 Tryd.underlying3 (by kernel_rfl) hf with ⟨hcs, _⟩ | ⟨x, l, c, zs, hcs, _, hl, hm, hz, _, hcell, hwz⟩
    · simp [Value.cells] at hcs
      obtain ⟨rfl, rfl, rfl⟩ := hcs
      exact ⟨[], .inl ⟨rfl, rfl, rfl, rfl⟩⟩
    · simp [Value.cells] at hcs
      obtain ⟨rfl, rfl, rfl⟩ := hcs
      exact ⟨zs, .inr ⟨_, rfl, hl, hm, by simpa using hz, hcell, hwz⟩⟩
  obtain ⟨c1, rfl, _⟩ := okWide_struct Tryd.underlying34 (hval 1 34 v1 rfl rfl)
  have k1 := h1
  have lt1 : ∀ x ∈ p1, x.block < W.heap.size := by obtain ⟨m, hm⟩ := k1; exact DataW.trod_lt m _ _ _ hm
  obtain ⟨x1, e1⟩ : ∃ x : Tr.Rid, c1 = x.cells.toArray := by
    obtain ⟨fuel, hf⟩ := h1
    obtain ⟨x, e⟩ := Tr.rid_el (Flat.trod_flat 4 _ _ Tr.flRid fuel _ _ hf)
    exact ⟨x, by rw [← e]; simp [Value.cells]⟩
  subst e1
  obtain ⟨c2, rfl, _⟩ := Rg.okWide_arr Tryd.underlying41 (hval 2 41 v2 rfl rfl)
  have k2 := h2
  have lt2 : ∀ x ∈ p2, x.block < W.heap.size := by obtain ⟨m, hm⟩ := k2; exact DataW.trod_lt m _ _ _ hm
  obtain ⟨x2, w2, e2⟩ : ∃ x : List Ru.Ru, x.length = 8 ∧ c2 = (Rg.runsC x).toArray := by
    obtain ⟨fuel, hf⟩ := h2
    obtain ⟨x, hl, e⟩ := Rg.rus_el 8 (Flat.trod_flat 5 _ _ Rg.flRs fuel _ _ hf)
    exact ⟨x, hl, by rw [← e]; simp [Value.cells]⟩
  subst e2
  obtain ⟨a3, rfl, rfl, rfl, w3⟩ := open_int Tryd.underlying3 (hval 3 3 v3 rfl rfl) h3
  clear hA0 hval0
  refine (walk a0 len0 cap0 z0 x1 x2 a3 W w0 w2 w3 (TrZ.of_laid hL)).mono fun e W' ⟨he, bel⟩ => ?_
  subst he
  exact ⟨_, rfl, _, _, _, [], _, [], hW', trodAll_mk1 (shut_bool Tryd.underlying4 _), (trodAll_cons_mk (Below.trod laidOut (by kernel_rfl) (of_decide_eq_true (by kernel_rfl)) k0 bel lt0) (trodAll_cons_mk (Below.trod laidOut (by kernel_rfl) (of_decide_eq_true (by kernel_rfl)) k1 bel lt1) (trodAll_cons_mk (Below.trod laidOut (by kernel_rfl) (of_decide_eq_true (by kernel_rfl)) k2 bel lt2) (trodAll_cons_mk (shut_int Tryd.underlying3 w3) trodAll_mk0)))), rfl, bel.frame _, fun h => by cases h⟩
theorem over : Rows.transitFairRow.holds Tryd.pinned (OpenSpec.ofChange Rows.transitFairSpec) :=
  OpenClaim.holds_of_wide 7 Tryd.f7 rfl rfl rfl rfl rfl rfl rfl ⟨rfl, rfl, rfl, rfl, rfl⟩ rfl rfl rfl rfl rfl (by kernel_rfl) Tryd.func7 (by kernel_rfl)
    (of_decide_eq_true (by kernel_rfl)) (by unfold Func.isWrapper; first | (rw [if_pos (by decide +kernel)]; kernel_rfl) | (rw [if_neg (by decide +kernel)]; exact ⟨rfl, rfl⟩))
    (fun os started H enc _ => lifted os started H enc)
/-- the statement: the tied card -/
theorem proved : Rows.TransitFairCardSaid :=
  Claim7.holds_tied_plain_at .later [] Rows.transitFairCard.laidKinds true Rows.transitFairCard.stood.harness Rows.transitFairCard.stood.looks
    over (fun _ h => by cases h) (by kernel_rfl) (fun _ h => by cases h) transitFair_row_tie rfl ⟨rfl, rfl⟩ (by kernel_rfl) rfl
    (fun f fn hf hfn => by
      obtain rfl : f = 7 := Option.some.inj ((show Tryd.prog.funcNamed "crossbuck/crossbucklaw20.TransitFair" = some 7 by kernel_rfl).symm.trans hf) |>.symm
      obtain rfl : fn = Tryd.f7 := (Option.some.inj (Tryd.func7.symm.trans hfn)).symm
      exact ⟨by kernel_rfl, fun j t ht => by
        have hm : t ∈ Tryd.f7.params.toList := Array.mem_toList_iff.2 (Array.mem_of_getElem? ht)
        have hall : (Tryd.f7.params.toList.all fun u => !Tryd.prog.wantsStandIn u) = true := by kernel_rfl
        have h1 := List.all_eq_true.1 hall t hm
        exact (show Tryd.prog.wantsStandIn t = false by simpa using h1)⟩)
    (by kernel_rfl)
#print axioms proved
end transitFair
end Go.Proofs.YtkccepdifgldeaaDoor
