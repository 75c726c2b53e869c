/- 10 texts in one file, in build order. -/
import Derived.Test.YtjgpljnbeolapaaRows
import Derived.Test.YtjgpljnbeolapaaPart02
import Derived.Deep.Cut
import Derived.WalkMore
import Derived.Test.YtjgpljnbeolapaaPart01
import Derived.Great.BuildSlice
import Derived.LoopTactic
import Derived.StillTailTactics
import Derived.Laws.ResultCell
import Derived.Laws.Rows
import Derived.RangeFuncNested
import Derived.RangeFuncBound
import Derived.RangeFuncCalls
import Derived.RangeFuncLeaves
import Derived.RangeFuncBox
import Derived.Shelf.Abstract
import Derived.Shelf.RegionOpen
import Derived.WalkKit
import Derived.OwnWalkIn
import Derived.TacticsInMore
import Derived.LoopNIn
import Derived.LoopIn
import Derived.Maps.AppendAt
import Derived.BigQuiet
set_option linter.unusedVariables false
set_option linter.unusedSimpArgs false
set_option linter.unusedSectionVars false
set_option maxHeartbeats 8000000
set_option maxRecDepth 100000
namespace Go.Proofs.Ytjgpljnbeolapaa
namespace PlanW
open Go.ChangeShapes Go.WideShapes Go.ChangeAt Go.RowKit
open Tab PlaceM PlanM
open May (ret_bool chain infoP infoG St)
open SetP (of_any has_any)
theorem info2 : (Try.prog.info? 92).map (·.size) = some 2 := by kernel_rfl
theorem infoT : (Try.prog.info? 32).map (·.size) = some 131 := by kernel_rfl
theorem row_one (w : World) (p : Int) (t : TypeId) (b : Nat) (hb : w.heap.size = b) : RefS.Row (w.alloc (.cells #[.int .i64 p] t)) (some ⟨b, 0, none⟩) [p] := by
  subst hb
  refine ⟨by simp [maxLen], .inr ⟨_, rfl, fun i hi => ?_⟩⟩
  obtain rfl : i = 0 := by simpa using hi
  rw [RefS.add_zero, cell_of_row _ _ _ _ _ _ (heap_alloc_new w _)]
  rfl
theorem idx0 (v0 v1 : Value) (w : World) : Sem.run Try.prog (Instr.index 92 (.agg #[v0, v1]) (.int .i64 0)) w = .ok v0 w := by kernel_rfl
theorem idx1 (v0 v1 : Value) (w : World) : Sem.run Try.prog (Instr.index 92 (.agg #[v0, v1]) (.int .i64 1)) w = .ok v1 w := by kernel_rfl
theorem has_one (p q : Int) : SetM.has ((SetM.of [p] : Nat) : Int) q = (decide (0 ≤ p ∧ p < 8) && decide (q = p)) := by
  unfold SetM.has
  rw [SetM.low_nat _ (SetM.of_lt _), SetM.of_test]
  by_cases h0 : 0 ≤ q
  · obtain ⟨k, rfl⟩ := Int.eq_ofNat_of_zero_le h0
    simp only [Int.toNat_natCast, List.mem_singleton, h0, decide_true, Bool.true_and]
    rw [Bool.eq_iff_iff]
    simp only [Bool.and_eq_true, decide_eq_true_eq]
    omega
  · rw [decide_eq_false h0, Bool.false_and]
    symm
    rw [Bool.and_eq_false_iff, decide_eq_false_iff_not, decide_eq_false_iff_not]
    omega
theorem results_tmp4 {P : Program} {fn : Func} {t u v x : Tmp} (h : fn.results = #[.tmp t, .tmp u, .tmp v, .tmp x]) (tmps : Array Value) (w : World) :
    (results fn tmps).run P w = .ok (.tuple #[tmps.getD t undef, tmps.getD u undef, tmps.getD v undef, tmps.getD x undef]) w := by
  simp [results, h]
def wG : Option Spt → Int | some x => x.g | none => 0
def wK : Option Spt → Int | some x => x.k | none => 0
def wI : Option Spt → Int | some x => x.i | none => 0
/-- Nothing that is looked for before a place. -/
theorem where_none {T : Tab} {p : Int} (h : ∀ x ∈ spots T, x.p ≠ p) : where_ T p = none := find_none h
theorem where_some {T : Tab} {p : Int} {x : Spt} (hx : x ∈ spots T) (hp : x.p = p) (hn : ∀ y ∈ spots T, Lt y x → y.p ≠ p) : where_ T p = some x := by
  unfold where_ find
  exact find_hit (spots_sorted T) hx (by simpa using hp) (fun y hy hl => by simpa using hn y hy hl)
def Tup (o : Option Spt) : Value := .tuple #[I (wG o), I (wK o), I (wI o), .bool o.isSome]
theorem pwhere_any (T : Tab) (h : Hd) (p : Int) (w : World) (ht : IsTab w h T) :
    Calls Try.prog 31 #[.agg (T.cells h).toArray, .int .i64 p] w fun e w' => e = .returned (.tuple #[I (wG (where_ T p)), I (wK (where_ T p)), I (wI (where_ T p)), .bool (where_ T p).isSome]) ∧ Below w.heap.size w w' := by
  obtain ⟨⟨ga, gcap⟩, sd, sr, sb⟩ := h
  have C := Lib.hid (cells_ok ht)
  generalize (T.cells ⟨⟨ga, gcap⟩, sd, sr, sb⟩).toArray = cs at C ⊢
  obtain ⟨gs, hgd, hgr⟩ := ht.groups
  have Hgr := Lib.hid hgr
  have Hgd := Lib.hid hgd
  have hsz := C.out.size
  have S0 := Lib.hid (St.box (cs := cs) ht)
  have Hgl := Lib.hid (show T.groups.length = gs.length by rw [← hgd, List.length_map])
  have Kg := hgr.1.len
  unfold maxLen at Kg
  have HS : Hid (∀ q, SetM.has ((SetM.of [p] : Nat) : Int) q = (decide (0 ≤ p ∧ p < 8) && decide (q = p))) := Lib.hid (has_one p)
  have WN : Hid ((∀ x ∈ spots T, x.p ≠ p) → where_ T p = none) := Lib.hid where_none
  have WS : Hid (∀ x, x ∈ spots T → x.p = p → (∀ y ∈ spots T, Lt y x → y.p ≠ p) → where_ T p = some x) := Lib.hid (fun x => where_some)
  generalize where_ T p = o at WN WS ⊢
  clear ht hgr hgd
  go_enter Try.func31, Try.ntmps31
  go_upto_region 1 with fail
  generalize w.alloc (.cells cs 32) = w1 at S0 ⊢
  clear hsz
  go_step3
  go_wp2_with fail
  have hb1 : Below w1.heap.size w1 (w1.alloc (.cells #[.int .i64 p] 3)) := (Below.refl _ _).alloc (Nat.le_refl _) _
  have hr := row_one w1 p 3 _ rfl
  have S2 := Lib.hid (S0.out.step hb1)
  have HR := Lib.hid hr
  clear hb1 hr S0
  generalize w1.alloc (.cells #[.int .i64 p] 3) = w2 at S2 HR ⊢
  refine (of_any _ _ [p] _ HR.out).mono ?_
  rintro e w' ⟨rfl, rfl⟩
  generalize ((SetM.of [p] : Nat) : Int) = s0 at HS ⊢
  clear HR
  have q104 := S2.out.cell C.out.g
  rw [Hgl.out] at q104
  have Q104 : Hid (w2.cell? ⟨w.heap.size, 104, none⟩ = some (.slice ga gs.length gcap)) := Lib.hid q104
  clear q104
  have q104 := Q104.out
  have LIFT : Hid (∀ W, Below w2.heap.size w2 W → ∀ (z : Addr) (c : Value), w2.cell? z = some c → W.cell? z = some c) := Lib.hid (fun W hb z c hc => (hb.cell (World.block_lt_of_cell? w2 _ hc)).trans hc)
  go_wp2_with fail
  go_step3
  go_wp2_with fail
  clear q104
  go_loopw [4, 5, 6, 7, 21] (fun a b c d g wr => ∃ q : Nat, q ≤ gs.length ∧ a = .int .i64 0 ∧ b = .int .i64 0 ∧ c = .int .i64 0 ∧ d = .bool false ∧ g = .int .i64 q ∧ (∀ x ∈ spots T, x.g < q → x.p ≠ p) ∧ Below w2.heap.size w2 wr) (fun _ _ _ _ g _ => gs.length - (intOf g).toNat)
  case atStart => exact ⟨0, by omega, rfl, rfl, rfl, rfl, rfl, (fun x _ h => by omega), Below.refl _ _⟩
  case round =>
    obtain ⟨q, hq, rfl, rfl, rfl, rfl, rfl, hall, hbel⟩ := hrel
    have HA := Lib.hid hall
    have HB := Lib.hid hbel
    clear hall hbel
    by_cases hlt : q < gs.length
    · have hv := List.getElem?_eq_getElem hlt
      generalize gs[q] = u at hv
      obtain ⟨x, hx, hc⟩ := (Hgr.out.1.below (S2.out.bel.trans (HB.out.mono S2.out.bel.size))).at hv
      have hok := (Hgr.out.2 u (List.mem_of_getElem? hv)).below (S2.out.bel.trans (HB.out.mono S2.out.bel.size))
      have HD : Hid (T.groups[q]? = some u.data) := Lib.hid (by rw [← Hgd.out, List.getElem?_map, hv]; rfl)
      obtain rfl : ga = some x := hx
      obtain ⟨l0, l1, ⟨a0, cap0⟩, ⟨a1, cap1⟩⟩ := u
      have HC : Hid (Lies wr (x.add (q * 2)) [.slice a0 l0.length cap0, .slice a1 l1.length cap1]) := Lib.hid hc
      have HO := Lib.hid hok
      clear hv hc hok
      have hwr := HB.out.size
      go_upto_region 5 with (first | (refine Row.wpList_load_g 92 _ rfl (by first | rfl | go_simp) (x.add (q * 2)) rfl [.slice a0 l0.length cap0, .slice a1 l1.length cap1] _ HC.out Try.underlying92 rfl info2 ?_) | (refine Row.wpList_store_new rfl 92 _ _ rfl wr #[.slice none 0 0, .slice none 0 0] #[.slice a0 l0.length cap0, .slice a1 l1.length cap1] rfl rfl rfl info2 rfl (by simp [Value.oneCell']) ?_))
      have hbn : Below w2.heap.size w2 (wr.alloc (.cells #[.slice a0 l0.length cap0, .slice a1 l1.length cap1] 92)) := HB.out.alloc hwr _
      have hbo : Below wr.heap.size wr (wr.alloc (.cells #[.slice a0 l0.length cap0, .slice a1 l1.length cap1] 92)) := (Below.refl _ _).alloc (Nat.le_refl _) _
      have hg := Row.lies_of_block (heap_alloc_new wr (.cells #[.slice a0 l0.length cap0, .slice a1 l1.length cap1] 92))
      have HL := Lib.hid hg
      have HO2 := Lib.hid (HO.out.below hbo)
      have HN := Lib.hid hbn
      clear hg hbn hbo HC HO
      generalize wr.alloc (.cells #[.slice a0 l0.length cap0, .slice a1 l1.length cap1] 92) = w4 at HL HO2 HN ⊢
      generalize wr.heap.size = b4 at HL ⊢
      go_wp2_with (first | (refine Row.wpList_load_g 92 _ rfl (by first | rfl | go_simp) ⟨b4, 0, none⟩ rfl [.slice a0 l0.length cap0, .slice a1 l1.length cap1] _ HL.out Try.underlying92 rfl info2 ?_))
      go_loopw [4, 5, 6, 7, 27] (fun a b c d k wk => ∃ r : Nat, r ≤ 2 ∧ a = .int .i64 0 ∧ b = .int .i64 0 ∧ c = .int .i64 0 ∧ d = .bool false ∧ k = .int .i64 r ∧ (∀ x ∈ spots T, x.g = q → x.k < r → x.p ≠ p) ∧ wk = w4) (fun _ _ _ _ k _ => 2 - (intOf k).toNat)
      case atStart => exact ⟨0, by omega, rfl, rfl, rfl, rfl, rfl, (fun x _ _ h => by omega), rfl⟩
      case round =>
        obtain ⟨r, hr, rfl, rfl, rfl, rfl, rfl, hall, rfl⟩ := hrel
        have HA2 := Lib.hid hall
        clear hall
        by_cases hr2 : r < 2
        · obtain ⟨l, a, cap, hidx, hrow, hring⟩ : ∃ (l : List Int) (a : Option Addr) (cap : Nat), (∀ W, Sem.run Try.prog (Instr.index 92 (.agg #[.slice a0 l0.length cap0, .slice a1 l1.length cap1]) (.int .i64 r)) W = .ok (.slice a l.length cap) W) ∧ IntRow wr ⟨a, cap⟩ l ∧ ringOf (l0, l1) r = l := by
            have : r = 0 ∨ r = 1 := by omega
            rcases this with rfl | rfl
            · exact ⟨l0, a0, cap0, fun W => idx0 _ _ W, HO2.out.1, rfl⟩
            · exact ⟨l1, a1, cap1, fun W => idx1 _ _ W, HO2.out.2, rfl⟩
          have HROW := Lib.hid hrow
          have HRING := Lib.hid hring
          have K := hrow.len
          unfold maxLen at K
          clear hrow hring
          go_wp2_with fail
          clear hidx
          go_loopw [4, 5, 6, 7, 33] (fun a0' b c d k wk => ∃ j : Nat, j ≤ l.length ∧ a0' = .int .i64 0 ∧ b = .int .i64 0 ∧ c = .int .i64 0 ∧ d = .bool false ∧ k = .int .i64 j ∧ (∀ i, i < j → SetM.has s0 (l.getD i 0) = false) ∧ wk = wr) (fun _ _ _ _ k _ => l.length - (intOf k).toNat)
          case atStart => exact ⟨0, by omega, rfl, rfl, rfl, rfl, rfl, (fun i h => by omega), rfl⟩
          case round =>
            obtain ⟨j, hj, rfl, rfl, rfl, rfl, rfl, hall, rfl⟩ := hrel
            have HA3 := Lib.hid hall
            clear hall
            by_cases hjl : j < l.length
            · have hv := List.getElem?_eq_getElem hjl
              generalize hz : l[j] = z at hv
              obtain ⟨y, hy, hp⟩ := IntRow.at HROW.out hv
              obtain rfl : a = some y := hy
              have HV := Lib.hid hv
              have hgd : l.getD j 0 = z := by rw [List.getD_eq_getElem?_getD, hv]; rfl
              have HGD := Lib.hid hgd
              clear hv hz hgd
              cases hh : SetM.has s0 z with
              | true =>
                have HF : Hid (o = some ⟨q, r, j, p⟩) := Lib.hid (by
                  have h1 := HS.out z
                  rw [hh] at h1
                  simp only [Eq.comm (a := true), Bool.and_eq_true, decide_eq_true_eq] at h1
                  obtain ⟨⟨p0, p8⟩, rfl⟩ := h1
                  refine WS.out _ (mem_spots.2 ⟨(l0, l1), HD.out, by rw [HRING.out]; exact HV.out, p0, p8⟩) rfl fun y hy hl => ?_
                  unfold Lt at hl
                  simp only at hl
                  rcases hl with hl | ⟨hl, hl2 | ⟨hl2, hl3⟩⟩
                  · exact HA.out y hy hl
                  · exact HA2.out y hy hl hl2
                  · intro e
                    obtain ⟨z, h2, h3, _⟩ := mem_spots.1 hy
                    rw [hl, HD.out] at h2
                    obtain rfl := Option.some.inj h2
                    have h4 : l[y.i]? = some y.p := by have := h3; rw [hl2] at this; rw [← HRING.out]; exact this
                    have h5 := HA3.out y.i hl3
                    rw [List.getD_eq_getElem?_getD, h4] at h5
                    have h6 := HS.out y.p
                    rw [show SetM.has s0 y.p = false from h5, e] at h6
                    simp [p0, p8] at h6)
                go_wp2_with (go_at_call 59; refine (has_any _ _ _).mono ?_; rintro e w' ⟨rfl, rfl⟩; rw [hh])
                (try rw [Exit.noGoto_ret])
                (try simp only [Exit.inBlock, Exit.then])
                refine bodyPost_ret (v := .tuple #[I q, I r, I j, .bool true]) ?_ rfl ⟨?_, ?_⟩
                · exact results_tmp4 (fn := Try.f31) (t := 4) (u := 5) (v := 6) (x := 7) rfl _ _
                · rw [HF.out]; rfl
                · exact S2.out.bel.trans (HN.out.mono S2.out.bel.size)
              | false =>
                go_wp2_with (go_at_call 59; refine (has_any _ _ _).mono ?_; rintro e w' ⟨rfl, rfl⟩; rw [hh])
                go_roundw
                case rel => exact ⟨j + 1, by omega, rfl, rfl, rfl, rfl, by go_num, (fun i hi => by
                  by_cases e : i = j
                  · subst e; rw [HGD.out]; exact hh
                  · exact HA3.out i (by omega)), trivial⟩
                case measure => simp [intOf]; omega
            · have HN : Hid (∀ x ∈ spots T, x.g = q → x.k < r + 1 → x.p ≠ p) := Lib.hid (fun y hy h1 h2 e => by
                by_cases h3 : y.k < r
                · exact HA2.out y hy h1 h3 e
                · obtain ⟨z, h4, h5, h6, h7⟩ := mem_spots.1 hy
                  rw [h1, HD.out] at h4
                  obtain rfl := Option.some.inj h4
                  have hk : y.k = r := by omega
                  have h8 : l[y.i]? = some y.p := by rw [hk] at h5; rw [← HRING.out]; exact h5
                  have h9 := HA3.out y.i (by have := (List.getElem?_eq_some_iff.1 h8).1; omega)
                  rw [List.getD_eq_getElem?_getD, h8] at h9
                  have h10 := HS.out y.p
                  rw [show SetM.has s0 y.p = false from h9, e] at h10
                  rw [e] at h6 h7
                  simp [h6, h7] at h10)
              go_wp2
              go_roundw
              case rel => exact ⟨r + 1, by omega, rfl, rfl, rfl, rfl, by go_num, HN.out, trivial⟩
              case measure => simp [intOf]; omega
        · have HN3 : Hid (∀ x ∈ spots T, x.g < q + 1 → x.p ≠ p) := Lib.hid (fun y hy h1 e => by
            by_cases h3 : y.g < q
            · exact HA.out y hy h3 e
            · obtain ⟨z, h4, h5, _⟩ := mem_spots.1 hy
              refine HA2.out y hy (by omega) ?_ e
              unfold ringOf at h5
              by_cases h6 : y.k = 0
              · omega
              · by_cases h7 : y.k = 1
                · omega
                · rw [if_neg h6, if_neg h7] at h5; simp at h5)
          go_wp2
          go_roundw
          case rel => exact ⟨q + 1, by omega, rfl, rfl, rfl, rfl, by go_num, HN3.out, HN.out⟩
          case measure => simp [intOf]; omega
    · have HF : Hid (o = none) := Lib.hid (WN.out (fun y hy => by
        refine HA.out y hy ?_
        obtain ⟨z, h4, _⟩ := mem_spots.1 hy
        have := (List.getElem?_eq_some_iff.1 h4).1
        rw [Hgl.out] at this
        omega))
      go_wp2
      (try rw [Exit.noGoto_ret])
      (try simp only [Exit.inBlock, Exit.then])
      refine bodyPost_ret (v := .tuple #[I 0, I 0, I 0, .bool false]) ?_ rfl ⟨?_, ?_⟩
      · exact results_tmp4 (fn := Try.f31) (t := 4) (u := 5) (v := 6) (x := 7) rfl _ _
      · rw [HF.out]; rfl
      · exact S2.out.bel.trans (HB.out.mono S2.out.bel.size)
end PlanW
namespace Same
open Go.ChangeShapes Go.WideShapes Go.ChangeAt Go.RowKit
open Tab
open May (ret_bool chain take_succ' infoP infoG infoD infoR infoB row_new)
end Same
namespace Same
open Go.ChangeShapes Go.WideShapes Go.ChangeAt Go.RowKit
open Tab
open May (ret_bool chain take_succ' infoP infoG infoD infoR infoB row_new)
end Same
namespace Same
open Go.ChangeShapes Go.WideShapes Go.ChangeAt Go.RowKit
open Tab
open May (ret_bool chain take_succ' infoP infoG infoD infoR infoB row_new St)
theorem below_setRow {B : Nat} {a w : World} (h : Below B a w) {g : Nat} (hg : B ≤ g) (cs : Array Value) : Below B a (w.setRow g cs) :=
  h.trans ⟨rfl, rfl, rfl, by simp [World.setRow], fun j hj => setRow_other _ _ _ _ (by omega)⟩
end Same
namespace PlanC
open Go.ChangeShapes Go.WideShapes Go.ChangeAt Go.RowKit
open Tab PlaceM PlanM
open May (ret_bool chain infoP infoG St phases_in)
open SetP (of_any has_any)
open Same (below_setRow)
theorem ret_int {k : IntKind} {a b : Int} (h : a = b) : Ending.returned (.int k a) = .returned (.int k b) := by rw [h]
theorem infoZ : (Try.prog.info? 92).map (fun i => (i.zero, i.size)) = some (some (.agg #[.slice none 0 0, .slice none 0 0]), 2) := by kernel_rfl
theorem infoT : (Try.prog.info? 32).map (·.size) = some 131 := by kernel_rfl
theorem info2 : (Try.prog.info? 92).map (·.size) = some 2 := by kernel_rfl
theorem idx0 (v0 v1 : Value) (w : World) : Sem.run Try.prog (Instr.index 92 (.agg #[v0, v1]) (.int .i64 0)) w = .ok v0 w := by kernel_rfl
theorem idx1 (v0 v1 : Value) (w : World) : Sem.run Try.prog (Instr.index 92 (.agg #[v0, v1]) (.int .i64 1)) w = .ok v1 w := by kernel_rfl
theorem row_of_int {w : World} {a : Option Addr} {cap : Nat} {L : List Int} (h : IntRow w ⟨a, cap⟩ L) : RefS.Row w a L := by
  have hl := h.len
  refine ⟨by omega, ?_⟩
  by_cases h0 : L = []
  · exact .inl h0
  · have hp : 0 < L.length := List.length_pos_iff.2 h0
    obtain ⟨x, hx, _⟩ := IntRow.at h (List.getElem?_eq_getElem hp)
    refine .inr ⟨x, hx, fun i hi => ?_⟩
    obtain ⟨y, hy, hc⟩ := IntRow.at h (List.getElem?_eq_getElem hi)
    obtain rfl : x = y := Option.some.inj (hx.symm.trans hy)
    rw [hc, List.getD_eq_getElem?_getD, List.getElem?_eq_getElem hi]
    rfl
theorem hasGroup_any (T : Tab) (h : Hd) (g : Int) (w : World) (ht : IsTab w h T) :
    Calls Try.prog 78 #[.agg (T.cells h).toArray, .int .i64 g] w fun e w' => e = .returned (.bool (decide (0 ≤ g ∧ g < T.groups.length))) ∧ Below w.heap.size w w' := by
  have C := Lib.hid (cells_ok ht)
  generalize (T.cells h).toArray = cs at C ⊢
  have hsz := C.out.size
  have S0 := Lib.hid (St.box (cs := cs) ht)
  clear ht
  have q104 := S0.out.cell C.out.g
  generalize hr : decide (0 ≤ g ∧ g < T.groups.length) = r
  have HR := Lib.hid hr
  clear hr
  generalize T.groups.length = n at *
  have Q104 := Lib.hid q104
  clear q104
  go_enter Try.func78, Try.ntmps78
  go_upto_region 1 with fail
  generalize w.alloc (.cells cs 32) = w1 at S0 Q104 ⊢
  clear hsz
  have q104 := Q104.out
  by_cases h0 : 0 ≤ g
  · by_cases h1 : g < n
    · go_wp2
      go_ret
      exact ⟨ret_bool (by rw [← HR.out]; simp [h0, h1]), S0.out.bel⟩
    · go_wp2
      go_ret
      exact ⟨ret_bool (by rw [← HR.out]; simp [h0, h1]), S0.out.bel⟩
  · go_wp2
    go_ret
    exact ⟨ret_bool (by rw [← HR.out]; symm; rw [decide_eq_false_iff_not]; omega), S0.out.bel⟩
/-- A group's two rows as a value. -/
def Pair (w : World) (y : List Int × List Int) (s0 s1 : Sl) : Prop := IntRow w s0 y.1 ∧ IntRow w s1 y.2
theorem rowsOf_any (T : Tab) (h : Hd) (g : Int) (w : World) (ht : IsTab w h T) :
    Calls Try.prog 80 #[.agg (T.cells h).toArray, .int .i64 g] w fun e w' => ∃ s0 s1 : Sl, e = .returned (.agg #[s0.val (rowsAt T g).1.length, s1.val (rowsAt T g).2.length]) ∧ Pair w' (rowsAt T g) s0 s1 ∧ Below w.heap.size w w' := by
  have hsz := (cells_ok ht).size
  have C := Lib.hid (cells_ok ht)
  have IA : Hid ((Try.prog.info? 32).map (·.size) = some (T.cells h).length) := Lib.hid (by rw [List.size_toArray] at hsz; rw [hsz]; exact infoT)
  have HG : Hid (∀ W, Below w.heap.size w W → Calls Try.prog 78 #[.agg (T.cells h).toArray, .int .i64 g] W fun e w' => e = .returned (.bool (decide (0 ≤ g ∧ g < T.groups.length))) ∧ Below W.heap.size W w') := Lib.hid (fun W hb => hasGroup_any T h g W (ht.below hb))
  obtain ⟨gs, hgd, hgr⟩ := ht.groups
  have Hgr := Lib.hid hgr
  have Hgd := Lib.hid hgd
  have Hgl := Lib.hid (show T.groups.length = gs.length by rw [← hgd, List.length_map])
  have Kg := hgr.1.len
  unfold maxLen at Kg
  have A0 : Hid (Below w.heap.size w ((w.alloc (.cells (T.cells h).toArray 32)).alloc (.cells #[.slice none 0 0, .slice none 0 0] 92))) := Lib.hid (((Below.refl _ _).alloc (Nat.le_refl _) _).alloc (by simp) _)
  have A1 : Hid (((w.alloc (.cells (T.cells h).toArray 32)).alloc (.cells #[.slice none 0 0, .slice none 0 0] 92)).heap[w.heap.size]? = some (.cells (T.cells h).toArray 32 (0, 0))) := Lib.hid (heap_alloc2_old w _ _)
  have A2 : Hid (((w.alloc (.cells (T.cells h).toArray 32)).alloc (.cells #[.slice none 0 0, .slice none 0 0] 92)).heap[w.heap.size + 1]? = some (.cells #[.slice none 0 0, .slice none 0 0] 92 (0, 0))) := Lib.hid (heap_alloc2_new w _ _)
  have hz := (zero_of_info infoZ).1
  clear ht hgr hgd
  generalize T.cells h = c at *
  go_enter Try.func80, Try.ntmps80
  go_upto_region 1 with fail
  generalize ((w.alloc (.cells c.toArray 32)).alloc (.cells #[.slice none 0 0, .slice none 0 0] 92)) = u at A0 A1 A2 ⊢
  clear hsz hz
  have LT : Hid (Lies u ⟨w.heap.size, 0, none⟩ c) := Lib.hid (by have := Row.lies_of_block A1.out; simpa using this)
  go_wp2_with (refine Row.wpList_load_g 32 _ rfl (by first | rfl | go_simp) ⟨w.heap.size, 0, none⟩ rfl c _ LT.out Try.underlying32 rfl IA.out ?_)
  refine (HG.out _ A0.out).mono ?_
  rintro e u1 ⟨rfl, hb⟩
  have B0 : Hid (Below w.heap.size w u1) := Lib.hid (A0.out.trans (hb.mono A0.out.size))
  have B1 : Hid (u1.heap[w.heap.size]? = some (.cells c.toArray 32 (0, 0))) := Lib.hid ((hb.block _ (Array.getElem?_eq_some_iff.1 A1.out).1).trans A1.out)
  have B2 : Hid (u1.heap[w.heap.size + 1]? = some (.cells #[.slice none 0 0, .slice none 0 0] 92 (0, 0))) := Lib.hid ((hb.block _ (Array.getElem?_eq_some_iff.1 A2.out).1).trans A2.out)
  clear hb A0 A1 A2 LT HG
  by_cases hg : 0 ≤ g ∧ g < T.groups.length
  · rw [decide_eq_true hg]
    obtain ⟨g0, g1⟩ := hg
    obtain ⟨q, rfl⟩ := Int.eq_ofNat_of_zero_le g0
    have hlt : q < gs.length := by have := Hgl.out; omega
    have hv := List.getElem?_eq_getElem hlt
    generalize gs[q] = v at hv
    have HR : Hid (rowsAt T q = v.data) := Lib.hid (rows_in (by rw [← Hgd.out, List.getElem?_map, hv]; rfl))
    obtain ⟨x, hx, hc⟩ := (Hgr.out.1.below B0.out).at hv
    have hok := (Hgr.out.2 v (List.mem_of_getElem? hv)).below B0.out
    have q104 : u1.cell? ⟨w.heap.size, 104, none⟩ = some (.slice (some x) gs.length h.g.cap) := by
      rw [cell_of_row _ _ _ _ _ _ B1.out, C.out.g, Hgl.out]; simp only [Sl.val, hx]
    have HC := Lib.hid hc
    have HM := Lib.hid (List.mem_of_getElem? hv)
    have HW := Lib.hid (below_setRow B0.out (g := w.heap.size + 1) (by omega) v.cells.toArray)
    have HK := Lib.hid (setRow_heap u1 (w.heap.size + 1) _ v.cells.toArray _ _ B2.out)
    have V1 : Hid (v.cells.toArray.all (·.oneCell') = true) := Lib.hid (Gr.one v)
    clear hv hc hok hx g1
    go_wp2_with (first | (refine Row.wpList_load_g 92 _ rfl (by first | rfl | go_simp) (x.add (q * 2)) rfl v.cells _ HC.out Try.underlying92 rfl info2 ?_) | (refine wpList_store_row rfl 92 _ _ rfl (w.heap.size + 1) v.cells.toArray rfl rfl 92 _ B2.out info2 rfl V1.out ?_))
    have HO2 : Hid (v.ok (u1.setRow (w.heap.size + 1) v.cells.toArray)) := Lib.hid ((Hgr.out.2 v HM.out).below HW.out)
    generalize u1.setRow (w.heap.size + 1) v.cells.toArray = u2 at HW HK HO2 ⊢
    go_wp2_with fail
    (try simp only [Exit.inBlock, Exit.then])
    refine bodyPost_ret (v := .agg v.cells.toArray) ?_ rfl ⟨v.s0, v.s1, by rw [HR.out]; rfl, by rw [HR.out]; exact HO2.out, HW.out⟩
    exact results_cell_row rfl _ _ (w.heap.size + 1) 92 _ (0, 0) _ rfl HK.out Try.underlying92 rfl info2
  · rw [decide_eq_false hg]
    have HR : Hid (rowsAt T g = ([], [])) := Lib.hid (rows_out hg)
    have HW := Lib.hid (below_setRow B0.out (g := w.heap.size + 1) (by omega) #[.slice none 0 0, .slice none 0 0])
    have HK := Lib.hid (setRow_heap u1 (w.heap.size + 1) _ #[.slice none 0 0, .slice none 0 0] _ _ B2.out)
    clear hg
    go_wp2_with (first | (refine wpList_store_row rfl 92 _ _ rfl (w.heap.size + 1) #[.slice none 0 0, .slice none 0 0] rfl rfl 92 _ B2.out info2 rfl (by simp [Value.oneCell']) ?_))
    generalize u1.setRow (w.heap.size + 1) #[.slice none 0 0, .slice none 0 0] = u2 at HW HK ⊢
    go_wp2_with fail
    (try simp only [Exit.inBlock, Exit.then])
    refine bodyPost_ret (v := .agg #[.slice none 0 0, .slice none 0 0]) ?_ rfl ⟨⟨none, 0⟩, ⟨none, 0⟩, by rw [HR.out]; rfl, by rw [HR.out]; exact ⟨RowOf.nil _, RowOf.nil _⟩, HW.out⟩
    exact results_cell_row rfl _ _ (w.heap.size + 1) 92 _ (0, 0) _ rfl HK.out Try.underlying92 rfl info2
theorem of_len (a : Option Addr) (cap : Nat) (l : List Int) (w : World) (h : IntRow w ⟨a, cap⟩ l) : Calls Try.prog 58 #[.slice a l.length cap] w fun e w' => e = .returned (.int .i64 (SetM.of l : Nat)) ∧ w = w' := of_any a cap l w (row_of_int h)
theorem or0 (m : Nat) (h : m < 256) : bits .or .i64 0 (m : Int) = (m : Int) := by
  have := RefS.or_small 0 m (by decide) h
  simpa using this
theorem members_any (T : Tab) (h : Hd) (g : Int) (w : World) (ht : IsTab w h T) :
    Calls Try.prog 79 #[.agg (T.cells h).toArray, .int .i64 g] w fun e w' => e = .returned (.int .i64 (membS T g : Nat)) ∧ Below w.heap.size w w' := by
  have hsz := (cells_ok ht).size
  have C := Lib.hid (cells_ok ht)
  have IA : Hid ((Try.prog.info? 32).map (·.size) = some (T.cells h).length) := Lib.hid (by rw [List.size_toArray] at hsz; rw [hsz]; exact infoT)
  have RO : Hid (∀ W, Below w.heap.size w W → Calls Try.prog 80 #[.agg (T.cells h).toArray, .int .i64 g] W fun e w' => ∃ s0 s1 : Sl, e = .returned (.agg #[s0.val (rowsAt T g).1.length, s1.val (rowsAt T g).2.length]) ∧ Pair w' (rowsAt T g) s0 s1 ∧ Below W.heap.size W w') := Lib.hid (fun W hb => rowsOf_any T h g W (ht.below hb))
  have A0 : Hid (Below w.heap.size w (w.alloc (.cells (T.cells h).toArray 32))) := Lib.hid ((Below.refl _ _).alloc (Nat.le_refl _) _)
  have A1 : Hid (Lies (w.alloc (.cells (T.cells h).toArray 32)) ⟨w.heap.size, 0, none⟩ (T.cells h)) := Lib.hid (Row.lies_new w _ _)
  have MS : Hid (membS T g = SetM.of (rowsAt T g).1 ||| SetM.of (rowsAt T g).2) := Lib.hid rfl
  generalize membS T g = m at MS ⊢
  generalize rowsAt T g = y at MS RO
  obtain ⟨l0, l1⟩ := y
  clear ht
  generalize T.cells h = c at *
  go_enter Try.func79, Try.ntmps79
  go_upto_region 1 with fail
  generalize w.alloc (.cells c.toArray 32) = u at A0 A1 ⊢
  clear hsz
  go_wp2_with (refine Row.wpList_load_g 32 _ rfl (by first | rfl | go_simp) ⟨w.heap.size, 0, none⟩ rfl c _ A1.out Try.underlying32 rfl IA.out ?_)
  refine (RO.out _ A0.out).mono ?_
  rintro e u1 ⟨⟨a0, cap0⟩, ⟨a1, cap1⟩, rfl, hpair, hb⟩
  have B0 : Hid (Below w.heap.size w u1) := Lib.hid (A0.out.trans (hb.mono A0.out.size))
  have HP := Lib.hid hpair
  clear hb A0 A1 RO hpair IA
  rw [show (Value.agg #[Sl.val ⟨a0, cap0⟩ (l0, l1).fst.length, Sl.val ⟨a1, cap1⟩ (l0, l1).snd.length]) = .agg #[.slice a0 l0.length cap0, .slice a1 l1.length cap1] from rfl]
  have i0 := idx0 (.slice a0 l0.length cap0) (.slice a1 l1.length cap1)
  have i1 := idx1 (.slice a0 l0.length cap0) (.slice a1 l1.length cap1)
  have I0 := Lib.hid i0
  have I1 := Lib.hid i1
  clear i0 i1
  go_wp2_with fail
  go_loopw [5, 11] (fun t i wr => ∃ r : Nat, r ≤ 2 ∧ i = .int .i64 r ∧ t = .int .i64 ((if r = 0 then 0 else if r = 1 then SetM.of l0 else m : Nat) : Int) ∧ wr = u1) (fun _ i _ => 2 - (intOf i).toNat)
  case atStart => exact ⟨0, by omega, rfl, rfl, rfl⟩
  case round =>
    obtain ⟨r, hr, rfl, rfl, rfl⟩ := hrel
    have hr2 : r = 0 ∨ r = 1 ∨ r = 2 := by omega
    rcases hr2 with rfl | rfl | rfl
    · rw [show ((0 : Nat) : Int) = (0 : Int) from rfl]
      have i0 := I0.out
      have HS := Lib.hid (or0 (SetM.of l0) (SetM.of_lt l0))
      simp only [if_true]
      go_wp2_with fail
      refine (of_len a0 cap0 l0 _ HP.out.1).mono ?_
      rintro e w' ⟨rfl, rfl⟩
      generalize hs : SetM.of l0 = s at HS MS ⊢
      have HQ := Lib.hid hs
      clear hs
      go_wp2
      go_roundw
      case rel => exact ⟨1, by omega, by go_num, by rw [HS.out, ← HQ.out]; rfl, trivial⟩
      case measure => simp [intOf]
    · rw [show ((1 : Nat) : Int) = (1 : Int) from rfl]
      have i1 := I1.out
      have HS : Hid (bits .or .i64 (SetM.of l0 : Nat) (SetM.of l1 : Nat) = (m : Nat)) := Lib.hid (by rw [RefS.or_small _ _ (SetM.of_lt _) (SetM.of_lt _), MS.out])
      simp only [Nat.one_ne_zero, if_false, if_true]
      go_wp2_with fail
      refine (of_len a1 cap1 l1 _ HP.out.2).mono ?_
      rintro e w' ⟨rfl, rfl⟩
      generalize SetM.of l0 = s at HS MS ⊢
      generalize SetM.of l1 = s' at HS MS ⊢
      go_wp2
      go_roundw
      case rel => exact ⟨2, by omega, by go_num, by rw [HS.out]; rfl, trivial⟩
      case measure => simp [intOf]
    · rw [show ((2 : Nat) : Int) = (2 : Int) from rfl]
      simp only [show ¬ (2 = 0) by decide, show ¬ (2 = 1) by decide, if_false]
      go_wp2
      go_ret
      exact ⟨rfl, B0.out⟩
end PlanC
namespace PlanN
open Go.ChangeShapes Go.WideShapes Go.ChangeAt Go.RowKit
open Tab PlaceM PlanM PlanC
open May (infoP St)
open SetP (has_any)
theorem ringAt_eq (T : Tab) (g r : Int) : ringAt T g r = if r = 0 then (rowsAt T g).1 else if r = 1 then (rowsAt T g).2 else [] := rfl
theorem next_any (T : Tab) (h : Hd) (g r a want : Int) (w : World) (ht : IsTab w h T) :
    Calls Try.prog 63 #[.agg (T.cells h).toArray, .int .i64 g, .int .i64 r, .int .i64 a, .int .i64 want] w fun e w' => e = .returned (.int .i64 (nextS T g r a want)) ∧ Below w.heap.size w w' := by
  have hsz := (cells_ok ht).size
  have C := Lib.hid (cells_ok ht)
  have IA : Hid ((Try.prog.info? 32).map (·.size) = some (T.cells h).length) := Lib.hid (by rw [List.size_toArray] at hsz; rw [hsz]; exact infoT)
  have RO : Hid (∀ W, Below w.heap.size w W → Calls Try.prog 80 #[.agg (T.cells h).toArray, .int .i64 g] W fun e w' => ∃ s0 s1 : Sl, e = .returned (.agg #[s0.val (rowsAt T g).1.length, s1.val (rowsAt T g).2.length]) ∧ Pair w' (rowsAt T g) s0 s1 ∧ Below W.heap.size W w') := Lib.hid (fun W hb => rowsOf_any T h g W (ht.below hb))
  have A0 : Hid (Below w.heap.size w (w.alloc (.cells (T.cells h).toArray 32))) := Lib.hid ((Below.refl _ _).alloc (Nat.le_refl _) _)
  have A1 : Hid (Lies (w.alloc (.cells (T.cells h).toArray 32)) ⟨w.heap.size, 0, none⟩ (T.cells h)) := Lib.hid (Row.lies_new w _ _)
  have NS : Hid (nextS T g r a want = nextIn (ringAt T g r) a want) := Lib.hid rfl
  generalize nextS T g r a want = res at NS ⊢
  have RA := Lib.hid (ringAt_eq T g r)
  generalize ringAt T g r = row at NS RA
  generalize rowsAt T g = y at RA RO
  obtain ⟨l0, l1⟩ := y
  clear ht
  generalize T.cells h = c at *
  go_enter Try.func63, Try.ntmps63
  go_upto_region 1 with fail
  generalize w.alloc (.cells c.toArray 32) = u at A0 A1 ⊢
  clear hsz
  go_wp2_with (refine Row.wpList_load_g 32 _ rfl (by first | rfl | go_simp) ⟨w.heap.size, 0, none⟩ rfl c _ A1.out Try.underlying32 rfl IA.out ?_)
  refine (RO.out _ A0.out).mono ?_
  rintro e u1 ⟨⟨a0, cap0⟩, ⟨a1, cap1⟩, rfl, hpair, hb⟩
  have B0 : Hid (Below w.heap.size w u1) := Lib.hid (A0.out.trans (hb.mono A0.out.size))
  have HP := Lib.hid hpair
  clear hb A0 A1 RO hpair IA
  rw [show (Value.agg #[Sl.val ⟨a0, cap0⟩ (l0, l1).fst.length, Sl.val ⟨a1, cap1⟩ (l0, l1).snd.length]) = .agg #[.slice a0 l0.length cap0, .slice a1 l1.length cap1] from rfl]
  go_upto_region 2 with (refine Row.wpList_store_new rfl 92 _ _ rfl u1 #[.slice none 0 0, .slice none 0 0] #[.slice a0 l0.length cap0, .slice a1 l1.length cap1] rfl rfl rfl info2 rfl (by simp [Value.oneCell']) ?_)
  have hbo : Below u1.heap.size u1 (u1.alloc (.cells #[.slice a0 l0.length cap0, .slice a1 l1.length cap1] 92)) := (Below.refl _ _).alloc (Nat.le_refl _) _
  have hg := Row.lies_of_block (heap_alloc_new u1 (.cells #[.slice a0 l0.length cap0, .slice a1 l1.length cap1] 92))
  have HL : Hid (Lies (u1.alloc (.cells #[.slice a0 l0.length cap0, .slice a1 l1.length cap1] 92)) ⟨u1.heap.size, 0, none⟩ [.slice a0 l0.length cap0, .slice a1 l1.length cap1]) := Lib.hid hg
  have HQ : Hid (IntRow (u1.alloc (.cells #[.slice a0 l0.length cap0, .slice a1 l1.length cap1] 92)) ⟨a0, cap0⟩ l0 ∧ IntRow (u1.alloc (.cells #[.slice a0 l0.length cap0, .slice a1 l1.length cap1] 92)) ⟨a1, cap1⟩ l1) := Lib.hid ⟨RowOf.below HP.out.1 hbo, RowOf.below HP.out.2 hbo⟩
  have HN : Hid (Below w.heap.size w (u1.alloc (.cells #[.slice a0 l0.length cap0, .slice a1 l1.length cap1] 92))) := Lib.hid (B0.out.trans (hbo.mono B0.out.size))
  clear hg hbo HP B0
  generalize u1.alloc (.cells #[.slice a0 l0.length cap0, .slice a1 l1.length cap1] 92) = w4 at HL HQ HN ⊢
  generalize u1.heap.size = b4 at HL ⊢
  by_cases hr : r = 0 ∨ r = 1
  rotate_left
  · have HF : Hid (-1 = res) := Lib.hid (by rw [NS.out, RA.out, if_neg (by omega), if_neg (by omega)]; exact (next_nil a want).symm)
    have hr' : r < 0 ∨ 2 ≤ r := by omega
    clear hr
    rcases hr' with hr' | hr'
    · go_wp2
      go_ret
      exact ⟨ret_int HF.out, HN.out⟩
    · go_wp2
      go_ret
      exact ⟨ret_int HF.out, HN.out⟩
  obtain ⟨l, sa, cap, k, rfl, hk2, hcell, hrow, hrl⟩ : ∃ (l : List Int) (sa : Option Addr) (cap k : Nat), r = (k : Int) ∧ k < 2 ∧ w4.cell? ⟨b4, 0 + k, none⟩ = some (.slice sa l.length cap) ∧ IntRow w4 ⟨sa, cap⟩ l ∧ row = l := by
    have h0 := HL.out 0 _ rfl
    have h1 := HL.out 1 _ rfl
    rw [Addr.add_mid] at h0 h1
    rcases hr with rfl | rfl
    · exact ⟨l0, a0, cap0, 0, rfl, by omega, h0, HQ.out.1, RA.out⟩
    · exact ⟨l1, a1, cap1, 1, rfl, by omega, h1, HQ.out.2, RA.out⟩
  have HR := Lib.hid hrow
  have K := hrow.len
  unfold maxLen at K
  subst hrl
  clear hr hrow RA HQ HL
  rw [Nat.zero_add] at hcell
  go_wp2_with fail
  clear hcell
  go_loopw [27] (fun i wr => ∃ j : Nat, j ≤ row.length ∧ i = .int .i64 j ∧ (∀ i, i < j → ¬ (a < (i : Int) ∧ SetM.has want (row.getD i 0) = true)) ∧ wr = w4) (fun i _ => row.length - (intOf i).toNat)
  case atStart => exact ⟨0, by omega, rfl, (fun i h => by omega), rfl⟩
  case round =>
    obtain ⟨j, hj, rfl, hall, rfl⟩ := hrel
    have HA := Lib.hid hall
    clear hall
    by_cases hjl : j < row.length
    · have hv := List.getElem?_eq_getElem hjl
      generalize hz : row[j] = z at hv
      obtain ⟨y, hy, hp⟩ := IntRow.at HR.out hv
      obtain rfl : sa = some y := hy
      have hgd : row.getD j 0 = z := by rw [List.getD_eq_getElem?_getD, hv]; rfl
      have HGD := Lib.hid hgd
      clear hv hz hgd
      by_cases haj : a < (j : Int)
      · cases hh : SetM.has want z with
        | true =>
          have HF : Hid ((j : Int) = res) := Lib.hid (by rw [NS.out]; exact (next_hit hjl haj (by rw [HGD.out]; exact hh) HA.out).symm)
          go_wp2_with (go_at_call 59; refine (has_any _ _ _).mono ?_; rintro e w' ⟨rfl, rfl⟩; rw [hh])
          go_ret
          exact ⟨ret_int HF.out, HN.out⟩
        | false =>
          go_wp2_with (go_at_call 59; refine (has_any _ _ _).mono ?_; rintro e w' ⟨rfl, rfl⟩; rw [hh])
          go_roundw
          case rel => exact ⟨j + 1, by omega, by go_num, (fun i hi e => by
            by_cases e2 : i = j
            · subst e2; rw [HGD.out, hh] at e; simp at e
            · exact HA.out i (by omega) e), trivial⟩
          case measure => simp [intOf]; omega
      · go_wp2
        go_roundw
        case rel => exact ⟨j + 1, by omega, by go_num, (fun i hi e => by
          by_cases e2 : i = j
          · subst e2; exact haj e.1
          · exact HA.out i (by omega) e), trivial⟩
        case measure => simp [intOf]; omega
    · have HF : Hid (-1 = res) := Lib.hid (by rw [NS.out]; exact (next_miss (fun i hi => HA.out i (by omega))).symm)
      go_wp2
      go_ret
      exact ⟨ret_int HF.out, HN.out⟩
end PlanN
namespace SetE
open Go.RowKit Go.Shelf
open Go.Proofs.Ytjgpljnbeolapaa
attribute [local go_sem] Oper.semAt_some
/-- The block B lies as it lay. -/
def Kept (B : Nat) (W W' : World) : Prop := W'.heap[B]? = W.heap[B]?
theorem Kept.refl (B : Nat) (W : World) : Kept B W W := rfl
theorem Kept.trans {B : Nat} {A C D : World} (h : Kept B A C) (k : Kept B C D) : Kept B A D := Eq.trans k h
theorem Kept.cell {B o : Nat} {A C : World} (h : Kept B A C) : C.cell? ⟨B, o, none⟩ = A.cell? ⟨B, o, none⟩ := by
  simp only [World.cell?, show C.heap[B]? = A.heap[B]? from h]
theorem Kept.below {n₀ B : Nat} {A C : World} (h : Below n₀ A C) (hB : B < n₀) : Kept B A C := h.block B hB
theorem Kept.setCell {B b o : Nat} (W : World) (v : Value) (h : B ≠ b) : Kept B W (W.setCell ⟨b, o, none⟩ v) := Below.heap_setCell _ _ _ B h
theorem kept_b {B : Nat} {w : World} (hB : B < w.heap.size) (W : World) (l : Nat) (o o' : Obj) (hl : w.heap.size ≤ l) (_ : W.heap[l]? = some o) (_ : o.isCells = false) (_ : o.isWalk = false) : Kept B W (W.putObj l o') :=
  World.putObj_heap_other (by omega)
/-- The iterator itself: for every loop body. -/
theorem each1_in (n : Nat) (hn : 1 ≤ n) (l Bs : Nat) (s : Int) (J Jx : List Int → World → Prop)
    (hY : ∀ pre x W, J pre W → pre.length < (SetM.list s).length → YieldAt Fence.wide (n - 1) Try.prog l #[.int .i64 x] W fun e W' =>
      (e = .returned (.bool true) ∧ J (pre ++ [x]) W' ∧ Kept Bs W W') ∨ (e = .returned (.bool false) ∧ Jx (pre ++ [x]) W'))
    (W : World) (hc : W.cell? ⟨Bs, 0, none⟩ = some (.int .i64 s)) (h0 : J [] W) :
    CallsIn Fence.wide n Try.prog 60 #[.func (.yield l) #[] #[], .pointer (some ⟨Bs, 0, none⟩)] W fun e W' => (∃ v, e = .returned v) ∧
      ((∃ ys, ys = SetM.list s ∧ J ys W') ∨ (∃ pre, pre <+: SetM.list s ∧ Jx pre W')) := by
  refine callsIn_of_wp Try.func60 rfl trivial ?_ rfl
  simp only [Try.ntmps60, List.size_toArray, List.length_cons, List.length_nil, Nat.reduceAdd, Nat.reduceSub, Array.replicate_succ, Array.replicate_zero, List.push_toArray, List.append_toArray, List.nil_append, List.cons_append]
  gi_wp2
  gi_loopw [4] (fun i wr => ∃ k : Nat, k ≤ 8 ∧ i = .int .i64 k ∧ J (SetM.upto s k) wr ∧ Kept Bs W wr)
    (fun i _ => 8 - (intOf i).toNat)
  case atStart => exact ⟨0, Nat.zero_le _, rfl, h0, Kept.refl _ _⟩
  case round =>
    obtain ⟨k, hk, rfl, hJs, hnx⟩ := hrel
    have hcx := (hnx.cell (o := 0)).trans hc
    by_cases hlt : k < 8
    · by_cases hh : SetM.has s k = true
      · obtain ⟨fn, tmps, assign, body, hy, hR⟩ := hY _ (k : Int) wr hJs (SetM.upto_lt s k hlt hh)
        have Hs := Lib.hid (SetM.upto_hit s k hh)
        have Hp := Lib.hid (SetM.upto_list s (k + 1) (by omega))
        gi_wp2_with (refine ⟨trivial, ?_⟩; gi_at_call 59; refine (callsIn_wide.2 (Set.has_any _ _ _)).mono ?_; rintro e w' ⟨rfl, rfl⟩; rw [hh])
        refine hR.mono ?_
        rintro e W3 (⟨rfl, hJ3, hk3⟩ | ⟨rfl, hJx3⟩)
        · gi_wp2
          go_roundw
          case rel => exact ⟨k + 1, by omega, by go_num, by rw [Hs.out]; exact hJ3, hnx.trans hk3⟩
          case measure => simp [intOf]; omega
        · gi_wp2
          refine bodyPost_ret (results_none rfl _ _ _) rfl ?_
          exact ⟨⟨_, rfl⟩, .inr ⟨_, by rw [← Hs.out]; exact Hp.out, hJx3⟩⟩
      · have hh' : SetM.has s k = false := by simpa using hh
        have Hs := Lib.hid (SetM.upto_miss s k hh')
        clear hh
        gi_wp2_with (refine ⟨trivial, ?_⟩; gi_at_call 59; refine (callsIn_wide.2 (Set.has_any _ _ _)).mono ?_; rintro e w' ⟨rfl, rfl⟩; rw [hh'])
        refine ⟨fun _ h => (by cases h), ?_⟩
        gi_wp2
        go_roundw
        case rel => exact ⟨k + 1, by omega, by go_num, by rw [Hs.out]; exact hJs, hnx⟩
        case measure => simp [intOf]; omega
    · obtain rfl : k = 8 := by omega
      gi_wp2
      go_end0
      exact ⟨⟨_, rfl⟩, .inl ⟨_, rfl, hJs⟩⟩
/-- set.Each(s): the set is boxed; the function value captures the box. -/
theorem each_in (n : Nat) (s : Int) (w : World) :
    CallsIn Fence.wide n Try.prog 33 #[.int .i64 s] w fun e w' => e = .returned (.func (.func 60) #[] #[.pointer (some ⟨w.heap.size, 0, none⟩)]) ∧ w' = w.alloc (.cells #[.int .i64 s] 3) := by
  refine callsIn_of_wp Try.func33 rfl trivial ?_ rfl
  simp only [Try.ntmps33, List.size_toArray, List.length_cons, List.length_nil, Nat.reduceAdd, Nat.reduceSub, Array.replicate_succ, Array.replicate_zero, List.push_toArray, List.append_toArray, List.nil_append, List.cons_append]
  gi_wp2
  go_ret
  exact ⟨rfl, rfl⟩
/-- The value that set.Each hands back: the phases of s, in order; or the first of them, where a round has said 'no more'. -/
theorem each_stops (n : Nat) (hn : 1 ≤ n) (Bs : Nat) (s : Int) (w : World) (hBs : Bs < w.heap.size) (hc : w.cell? ⟨Bs, 0, none⟩ = some (.int .i64 s)) :
    SeqStopsK Fence.wide n Try.prog 60 #[.pointer (some ⟨Bs, 0, none⟩)] (fun x : Int => #[Value.int .i64 x]) (Kept Bs) (fun ys => ys = SetM.list s) (fun pre => pre <+: SetM.list s) (SetM.list s).length w := fun l J Jx W hW _ _ hY h0 =>
  each1_in n hn l Bs s J Jx hY W ((hW.cell (p := ⟨Bs, 0, none⟩) hBs).trans hc) h0
theorem first_in (s : Int) (w : World) :
    Calls Try.prog 32 #[.int .i64 s] w fun e W' => e = .returned (.int .i64 (SetM.first s)) ∧ Below w.heap.size w W' := by
  refine (callsIn_wide (n := 3)).1 ?_
  refine callsIn_of_wp_marks Try.func32 rfl trivial ?_ rfl
  simp only [Try.ntmps32, List.size_toArray, List.length_cons, List.length_nil, Nat.reduceAdd, Nat.reduceSub, Array.replicate_succ, Array.replicate_zero, List.push_toArray, List.append_toArray, List.nil_append, List.cons_append]
  gi_wp2_with (refine ⟨trivial, ?_⟩; gi_at_call 33; refine (each_in _ _ _).mono ?_; rintro e w' ⟨rfl, rfl⟩)
  have bO := Boxed.new w 3 (.int .i64 0)
  have bN := Boxed.new (w.alloc (.cells #[.int .i64 0] 3)) 3 (.int .i64 s)
  rw [World.size_alloc] at bN
  have hB0 : Below w.heap.size w ((w.alloc (.cells #[.int .i64 0] 3)).alloc (.cells #[.int .i64 s] 3)) := ((Below.refl _ w).alloc (Nat.le_refl _) _).alloc (by simp) _
  refine wpIn_rangeFunc_ownG rfl (by omega) (gf := 60) (lb := #[.pointer (some ⟨w.heap.size + 1, 0, none⟩)]) rfl trivial (enters_of Try.func60 (by kernel_rfl) rfl)
    (each_stops _ (by omega) (w.heap.size + 1) s _ (by simp) bN.cell) Kept.trans (kept_b (by simp)) (Below.refl _ _) (fun _ => rfl)
    (fun pre W => (pre = [] ∧ Boxed W w.heap.size 3 (.int .i64 0)) ∧ Below w.heap.size w W)
    (fun c pre W => (c = .ret ∧ ∃ x, pre = [x] ∧ Boxed W w.heap.size 3 (.int .i64 x)) ∧ Below w.heap.size w W)
    (OwnFrom.and (Own.from (fun s A B row hs hg hr => ⟨hs.1, hs.2.kept hg (fun e => by obtain ⟨o, ho, hc⟩ := hr _ e.symm; rw [show A.heap[_]? = _ from hs.2] at ho; cases ho; cases hc)⟩) _) (ownFrom_below (Nat.le_refl _) (by simp; omega)))
    (fun c => OwnFrom.and (Own.from (fun s A B row hs hg hr => by obtain ⟨h1, x, h2, h3⟩ := hs; exact ⟨h1, x, h2, h3.kept hg (fun e => by obtain ⟨o, ho, hc⟩ := hr _ e.symm; rw [show A.heap[_]? = _ from h3] at ho; cases ho; cases hc)⟩) _) (ownFrom_below (Nat.le_refl _) (by simp; omega)))
    ⟨⟨rfl, bO.alloc _⟩, hB0⟩
    (fun x => { tmps := #[.int .i64 s, undef, .pointer (some ⟨w.heap.size, 0, none⟩), .int .i64 x, .int .i64 s, .func (.func 60) #[] #[.pointer (some ⟨w.heap.size + 1, 0, none⟩)], .int .i64 x, undef], defers := [] }) ?assign ?body ?done ?stop
  case assign =>
    intro l x W K hK
    gi_wp2
    exact hK
  case body =>
    rintro l pre x W ⟨⟨rfl, hv⟩, hB⟩ hlt
    have hc := hv.cell
    have hf := hv.frozen
    gi_wp2
    exact ⟨(KeepsOthers.setCell _ _ _).from _, ⟨rfl, x, rfl, hv.set _⟩, hB.setCell (p := ⟨w.heap.size, 0, none⟩) (Nat.le_refl _) _⟩
  case done =>
    rintro D ys W hD rfl ⟨⟨hn, hv⟩, hB⟩ hK
    have hc := hv.cell
    have hf := hv.frozen
    have HF : Hid (SetM.first s = -1) := Lib.hid (by unfold SetM.first; rw [hn]; rfl)
    clear hn
    gi_wp2
    have hv2 := hv.set (.int .i64 (-1))
    have hK' := (KeepsOthers.setCell W ⟨w.heap.size, 0, none⟩ (.int .i64 (-1))).same D _ hK rfl
    refine ⟨by simp, .inl ⟨_, _, rfl, run_takeDeferred hK', ?_⟩⟩
    have hc5 := cell_kept hv2.cell (grownBy_putObj' _ D (.deferred none)) (fun r e => by cases e; exact ⟨_, hK', rfl⟩)
    refine ⟨.int .i64 (-1), ?_, by rw [HF.out], (hB.setCell (p := ⟨w.heap.size, 0, none⟩) (Nat.le_refl _) _).trans (belowK_b (w := w) (Nat.le_refl _) _ D _ _ (by simp at hD; omega) hK' rfl rfl)⟩
    simp [results, Try.f32, go_sem, hc5]
  case stop =>
    rintro D c pre W hD hpre ⟨⟨rfl, x, rfl, hv⟩, hB⟩ hK
    have HF : Hid (SetM.first s = x) := Lib.hid (by unfold SetM.first; obtain ⟨t, ht⟩ := hpre; rw [← ht]; rfl)
    gi_wp2
    refine ⟨by simp, .inl ⟨_, _, rfl, run_takeDeferred hK, ?_⟩⟩
    have hc5 := cell_kept hv.cell (grownBy_putObj' _ D (.deferred none)) (fun r e => by cases e; exact ⟨_, hK, rfl⟩)
    refine ⟨.int .i64 x, ?_, by rw [HF.out], hB.trans (belowK_b (w := w) (Nat.le_refl _) W D _ _ (by simp at hD; omega) hK rfl rfl)⟩
    simp [results, Try.f32, go_sem, hc5]
end SetE
namespace Rg
open Go Go.ChangeShapes Go.WideShapes Go.ChangeAt Go.RowKit
open Tab Flat TabArg QL Ru PlanM
open ChkM (cfAt)
open Clear (phAt)
open PlaceM (where_ spots Spt)
open May (infoP)
theorem group_row {w : World} {h : Hd} {T : Tab} (ht : IsTab w h T) {q : Nat} (hq : q < T.groups.length) {k : Nat} (hk : k < 2) : ∃ (x : Addr) (gcap : Nat) (sa : Option Addr) (cap : Nat), (T.cells h).toArray[104]? = some (.slice (some x) T.groups.length gcap) ∧ w.cell? (x.add (q * 2 + k)) = some (.slice sa (ringAt T q k).length cap) ∧ IntRow w ⟨sa, cap⟩ (ringAt T q k) := by
  have C := cells_ok ht
  obtain ⟨gs, hgd, hgr⟩ := ht.groups
  have hgl : T.groups.length = gs.length := by rw [← hgd, List.length_map]
  have hv := List.getElem?_eq_getElem (show q < gs.length by omega)
  generalize gs[q] = v at hv
  have HR : rowsAt T q = v.data := rows_in (by rw [← hgd, List.getElem?_map, hv]; rfl)
  obtain ⟨x, hx, hc⟩ := hgr.1.at hv
  have hok := hgr.2 v (List.mem_of_getElem? hv)
  have hg := C.g
  simp only [Sl.val, hx] at hg
  match k, hk with
  | 0, _ =>
    have h0 := hc 0 _ rfl
    rw [add_two] at h0
    have e : ringAt T q ((0 : Nat) : Int) = v.r0 := by unfold ringAt; rw [HR]; rfl
    exact ⟨x, h.g.cap, v.s0.a, v.s0.cap, hg, by rw [e]; exact h0, by rw [e]; exact hok.1⟩
  | 1, _ =>
    have h0 := hc 1 _ rfl
    rw [add_two] at h0
    have e : ringAt T q ((1 : Nat) : Int) = v.r1 := by unfold ringAt; rw [HR]; rfl
    exact ⟨x, h.g.cap, v.s1.a, v.s1.cap, hg, by rw [e]; exact h0, by rw [e]; exact hok.2⟩
theorem rg_at (r : Rg) {k : Nat} (hk : k < 2) : r.cells[1 + k]? = some (I (r.at k)) := by
  match k, hk with
  | 0, _ => rfl
  | 1, _ => rfl
theorem now_any (T : Tab) (h : Hd) (r : Rg) (k : Nat) (w : World) (ht : IsTab w h T) (hg : 0 ≤ r.g ∧ r.g < T.groups.length) (hk : k < 2) : Calls Try.prog 36 #[.agg (T.cells h).toArray, .agg r.cells.toArray, .int .i64 k] w fun e w' => e = .returned (.int .i64 (nowS T r.g k (r.at k))) ∧ Below w.heap.size w w' := by
  obtain ⟨q, hq⟩ := Int.eq_ofNat_of_zero_le hg.1
  have hql : q < T.groups.length := by omega
  obtain ⟨x, gcap, sa, cap, q104, hrow, hir⟩ := group_row ht hql hk
  have HI : Hid (∀ W, Below w.heap.size w W → IntRow W ⟨sa, cap⟩ (ringAt T q k)) := Lib.hid (fun W hb => hir.below hb)
  have HC : Hid (∀ W, Below w.heap.size w W → W.cell? (x.add (q * 2 + k)) = some (.slice sa (ringAt T q k).length cap)) := Lib.hid (fun W hb => (hb.cell (World.block_lt_of_cell? w _ hrow)).trans hrow)
  have HN : Hid (nowS T r.g k (r.at k) = if 0 ≤ r.at k ∧ r.at k < ((ringAt T q k).length : Int) then SetM.first (SetM.of [(ringAt T q k).getD (r.at k).toNat 0] : Nat) else -1) := Lib.hid (by rw [hq]; rfl)
  have HG := Lib.hid hq
  have HQ := Lib.hid hql
  have hcn := rg_at r hk
  generalize hnn : T.groups.length = n at *
  have KN : n ≤ maxLen := by obtain ⟨gs, hgd, hgr⟩ := ht.groups; have := hgr.1.len; rw [← hgd, List.length_map] at hnn; omega
  have KL := hir.len
  unfold maxLen at KN KL
  generalize ringAt T q k = row at *
  have NV : Hid (nowS T r.g k (r.at k) = nowS T r.g k (r.at k)) := Lib.hid rfl
  generalize nowS T r.g k (r.at k) = res at *
  generalize hat : r.at k = a at *
  have CN := Lib.hid hcn
  generalize hcs : (T.cells h).toArray = cs at *
  have C104 := Lib.hid q104
  clear ht hir hrow hcn q104 hcs hnn hat hg hql hq NV
  have hn0 := Blk.Bks.nil w
  have hn1 := hn0.alloc cs 32
  have hn2 := hn1.alloc r.cells.toArray 36
  rw [show (w.alloc (.cells cs 32)).heap.size = w.heap.size + 1 by simp] at hn2
  clear hn0
  clear hn1
  go_enter Try.func36, Try.ntmps36
  go_upto_region 1 with fail
  generalize World.alloc (World.alloc w _) _ = v at hn2 ⊢
  generalize hg1 : w.heap.size + 1 = gr at hn2 ⊢
  generalize hg0 : w.heap.size = gt at hn2 ⊢
  clear hg0 hg1
  have H0 := Lib.hid hn2
  clear hn2
  have a0 : v.cell? ⟨gt, 104, none⟩ = some (.slice (some x) n gcap) := H0.out.cell 1 104 rfl C104.out
  have a1 : v.cell? ⟨gr, 0, none⟩ = some (I q) := by rw [← HG.out]; exact H0.out.cell 0 0 rfl rfl
  have d0 : decide ((q : Int) < 0) = false := decide_eq_false (by omega)
  have d1 : decide ((n : Int) ≤ (q : Int)) = false := decide_eq_false (by have := HQ.out; omega)
  have d2 : decide ((k : Int) < 0) = false := decide_eq_false (by omega)
  have d3 : decide ((2 : Int) ≤ (k : Int)) = false := decide_eq_false (by omega)
  have hk2 : (k : Int) < 2 := by omega
  have hk0 : 0 ≤ (k : Int) := by omega
  have hk3 : ((k : Int)).toNat = k := by omega
  have hqn : (q : Int) < n := by have := HQ.out; omega
  go_upto_region 3 with fail
  clear d0 d1 d2 d3
  have HV := Lib.hid (H0.out.bel)
  have a2 : ∀ p : QB.By v.heap.size v, p.world.cell? ⟨gt, 104, none⟩ = some (.slice (some x) n gcap) := fun p => (H0.out.by p).cell 1 104 rfl C104.out
  have a3 : ∀ p : QB.By v.heap.size v, p.world.cell? ⟨gr, 0, none⟩ = some (I q) := fun p => by rw [← HG.out]; exact (H0.out.by p).cell 0 0 rfl rfl
  have a4 : ∀ p : QB.By v.heap.size v, p.world.cell? ⟨gr, 1 + k, none⟩ = some (I a) := fun p => (H0.out.by p).cell 0 (1 + k) rfl (by rw [List.getElem?_toArray]; exact CN.out)
  have a5 : ∀ p : QB.By v.heap.size v, p.world.cell? (x.add (q * 2 + k)) = some (.slice sa row.length cap) := fun p => HC.out _ (HV.out.trans (p.below.mono HV.out.size))
  have a6 : ∀ p : QB.By v.heap.size v, p.world.cell? ((x.add (q * 2)).add k) = some (.slice sa row.length cap) := fun p => by rw [add_two]; exact a5 p
  refine QB.region_below v.heap.size (by kernel_rfl) (by kernel_rfl) ?_
  repeat (first | (quiet_step (fail)) | (go_big_quiet_step (fail)))
  refine wpQuiet_nil ?_
  intro _ hw'
  obtain ⟨pq, rfl⟩ := hw'
  have HP := Lib.hid (H0.out.by pq)
  generalize pq.world = vp at HP ⊢
  clear a0 a1 a2 a3 a4 a5 a6
  by_cases h0 : a < 0
  · have HR : Hid (-1 = res) := Lib.hid (by rw [HN.out, if_neg (by omega)])
    go_wp2
    go_ret
    exact ⟨ret_int HR.out, HP.out.bel⟩
  by_cases h1 : (row.length : Int) ≤ a
  · have HR : Hid (-1 = res) := Lib.hid (by rw [HN.out, if_neg (by omega)])
    have d1 : decide (a < 0) = false := decide_eq_false h0
    have d2 : decide ((row.length : Int) ≤ a) = true := decide_eq_true h1
    go_wp2
    go_ret
    exact ⟨ret_int HR.out, HP.out.bel⟩
  obtain ⟨i, rfl⟩ := Int.eq_ofNat_of_zero_le (show 0 ≤ a by omega)
  have hi : i < row.length := by omega
  have hv := List.getElem?_eq_getElem hi
  generalize row[i] = z at hv
  obtain ⟨y, hy, hcz⟩ := IntRow.at (HI.out vp HP.out.bel) hv
  obtain rfl : sa = some y := hy
  have HR : Hid (SetM.first ((SetM.of [z] : Nat) : Int) = res) := Lib.hid (by rw [HN.out, if_pos ⟨by omega, by omega⟩, Int.toNat_natCast, List.getD_eq_getElem?_getD, hv]; rfl)
  clear hv
  have d1 : decide ((i : Int) < 0) = false := decide_eq_false h0
  have d2 : decide ((row.length : Int) ≤ (i : Int)) = false := decide_eq_false h1
  have hil : (i : Int) < row.length := by omega
  generalize hs : ((SetM.of [z] : Nat) : Int) = sz at HR
  have SO : Hid (∀ W : World, Calls Try.prog 58 #[.slice (some ⟨W.heap.size, 0, none⟩) 1 1] (W.alloc (.cells #[.int .i64 z] 3)) fun e w' => e = .returned (.int .i64 sz) ∧ W.alloc (.cells #[.int .i64 z] 3) = w') := Lib.hid (fun W => by rw [← hs]; exact SetP.of_any _ _ [z] _ (PlanW.row_one W z 3 _ rfl))
  clear hs
  go_upto_region 6 with fail
  go_wp2_with (go_at_call 58; with_reducible refine (SO.out _).mono ?_; rintro e w' ⟨rfl, rfl⟩)
  have HQ2 := Lib.hid (HP.out.alloc #[.int .i64 z] 3)
  generalize vp.alloc _ = vq at HQ2 ⊢
  refine (SetE.first_in _ _).mono ?_
  rintro e w9 ⟨rfl, b9⟩
  go_wp2
  go_ret
  exact ⟨ret_int HR.out, (HQ2.out.step b9).bel⟩
end Rg
namespace GenG
open Go.ChangeShapes Go.WideShapes Go.ChangeAt Go.RowKit
open Tab Gath
open RefS (num from_any num_range ret_int)
/-- m phases from p on. -/
def seg (p m : Nat) : List Int := (List.range m).map fun i => ((p + i : Nat) : Int)
theorem seg_len (p m : Nat) : (seg p m).length = m := by simp [seg]
theorem seg_succ (p m : Nat) : seg p (m + 1) = seg p m ++ [((p + m : Nat) : Int)] := by unfold seg; rw [List.range_succ, List.map_append]; rfl
def lim (G g : Nat) : Nat := 9 + g - G
def want0 (L : List Int) (g : Nat) : Nat := (num L (1 + 2 * g) 3).toNat
def want1 (L : List Int) (g : Nat) (m : Nat) : Nat := if num L (2 + 2 * g) 3 = 0 ∧ m = 0 then 1 else (num L (2 + 2 * g) 3).toNat
def n0 (L : List Int) (G g p : Nat) : Nat := min (want0 L g) (lim G g - p)
def n1 (L : List Int) (G g p : Nat) : Nat := min (want1 L g (n0 L G g p)) (lim G g - (p + n0 L G g p))
def grpD (L : List Int) (G g p : Nat) : List Int × List Int := (seg p (n0 L G g p), seg (p + n0 L G g p) (n1 L G g p))
def upTo (L : List Int) (G : Nat) : Nat → List (List Int × List Int) × Nat
  | 0 => ([], 0)
  | g + 1 => ((upTo L G g).1 ++ [grpD L G g (upTo L G g).2], (upTo L G g).2 + n0 L G g (upTo L G g).2 + n1 L G g (upTo L G g).2)
def genG (L : List Int) : Nat := (1 + num L 0 3).toNat
def genGs (L : List Int) : List (List Int × List Int) := (upTo L (genG L) (genG L)).1
def genN (L : List Int) : Nat := (upTo L (genG L) (genG L)).2
theorem genG_range (L : List Int) : 1 ≤ genG L ∧ genG L ≤ 3 := by have := num_range L 0 3 (by omega); unfold genG; omega
theorem want0_le (L : List Int) (g : Nat) : want0 L g ≤ 2 := by have := num_range L (1 + 2 * g) 3 (by omega); unfold want0; omega
theorem want1_le (L : List Int) (g m : Nat) : want1 L g m ≤ 2 := by have := num_range L (2 + 2 * g) 3 (by omega); unfold want1; split <;> omega
theorem up_le (L : List Int) (G : Nat) (hG : G ≤ 3) : ∀ g, g ≤ G → (upTo L G g).2 ≤ 8
  | 0, _ => Nat.zero_le _
  | g + 1, h => by
    have := up_le L G hG g (by omega)
    show (upTo L G g).2 + n0 L G g (upTo L G g).2 + n1 L G g (upTo L G g).2 ≤ 8
    unfold n1 n0 lim
    omega
theorem up_len (L : List Int) (G : Nat) : ∀ g, (upTo L G g).1.length = g
  | 0 => rfl
  | g + 1 => by show ((upTo L G g).1 ++ [_]).length = g + 1; rw [List.length_append, up_len L G g]; rfl
/-- A row of integers, in a block of integers. -/
def RowI (w : World) (s : Sl) (l : List Int) : Prop := IntRow w s l ∧ ∀ x, s.a = some x → ∃ cs : Array Value, w.heap[x.block]? = some (.cells cs 3 (0, 0))
theorem RowI.below {w w' : World} {s : Sl} {l : List Int} (h : RowI w s l) (hb : Below w.heap.size w w') : RowI w' s l := ⟨h.1.below hb, fun x hx => by
  obtain ⟨cs, hc⟩ := h.2 x hx
  exact ⟨cs, (hb.block _ (Array.getElem?_eq_some_iff.1 hc).1).trans hc⟩⟩
theorem add_block (x : Addr) (k : Nat) : (x.add k).block = x.block := by unfold Addr.add; split <;> rfl
theorem RowI.grown {w w' : World} {s : Sl} {l : List Int} {row : Option Nat} (h : RowI w s l) (hg : w.grownBy w' row) (hne : ∀ x, s.a = some x → some x.block ≠ row) : RowI w' s l := by
  refine ⟨?_, fun x hx => ?_⟩
  · rcases h.1 with h | ⟨x, h1, h2, h3, h4⟩
    · exact .inl h
    · exact .inr ⟨x, h1, h2, h3, fun i v hv j u hu => hg.cell (h4 i v hv j u hu) (by rw [add_block, add_block]; exact hne x h1)⟩
  · obtain ⟨cs, hc⟩ := h.2 x hx
    exact ⟨cs, (hg.block _ (Array.getElem?_eq_some_iff.1 hc).1 (hne x hx)).trans hc⟩
/-- It lies in another block than one of another type. -/
theorem RowI.ne {w : World} {s : Sl} {l : List Int} {b : Nat} {cs : Array Value} {t : TypeId} (h : RowI w s l) (hb : w.heap[b]? = some (.cells cs t (0, 0))) (ht : t ≠ 3) : ∀ x, s.a = some x → x.block ≠ b := by
  intro x hx e
  obtain ⟨ds, hc⟩ := h.2 x hx
  rw [e, hb] at hc
  simp at hc
  exact ht hc.2
theorem grown_set (W : World) (b i : Nat) (v : Value) : W.grownBy (W.setCell ⟨b, i, none⟩ v) (some b) :=
  ⟨rfl, rfl, rfl, by simp, fun j _ hj => heap_setCell_other _ _ _ _ (fun e => hj (by rw [e]))⟩
theorem own_row {B : Nat} {w : World} {v : Value} {l : List Int} (h : Owns (fun n => [I n]) 1 B w 3 v l) : ∃ s : Sl, v = s.val l.length ∧ RowI w s l := by
  obtain ⟨s, hs, hr⟩ := Owns.row h (enc := fun n => [I n]) (fun _ => rfl)
  refine ⟨s, hs, hr, fun x hx => ?_⟩
  rcases h.2 with ⟨e, _⟩ | ⟨g, cap, cur, e, h1, h2, _⟩
  · rw [hs] at e
    simp [Sl.val, hx] at e
  · rw [hs] at e
    simp [Sl.val, hx] at e
    obtain ⟨rfl, _⟩ := e
    exact ⟨cur, h2⟩
theorem own_kept {α : Type} {enc : α → List Value} {n B : Nat} {w w' : World} {t : TypeId} {v : Value} {l : List α} {row : Option Nat} (h : Owns enc n B w t v l) (hg : w.grownBy w' row) (hne : ∀ m, v.ownBlock = some m → row ≠ some m) : Owns enc n B w' t v l :=
  World.ownsRow.kept h hg (by
    cases e : v.ownBlock with
    | none => exact .inl rfl
    | some m => exact .inr (fun e' => hne m e e'.symm))
theorem own_lt {α : Type} {enc : α → List Value} {n B : Nat} {w : World} {t : TypeId} {v : Value} {l : List α} (h : Owns enc n B w t v l) : ∀ m, v.ownBlock = some m → m < w.heap.size := by
  intro m hm
  rcases h.2 with ⟨rfl, _⟩ | ⟨g, cap, cur, rfl, h1, h2, _⟩
  · simp [Value.ownBlock] at hm
  · simp [Value.ownBlock] at hm
    subst hm
    exact (Array.getElem?_eq_some_iff.1 h2).1
theorem own_type {α : Type} {enc : α → List Value} {n B : Nat} {w : World} {t : TypeId} {v : Value} {l : List α} (h : Owns enc n B w t v l) : ∀ m, v.ownBlock = some m → ∃ cs : Array Value, w.heap[m]? = some (.cells cs t (0, 0)) := by
  intro m hm
  rcases h.2 with ⟨rfl, _⟩ | ⟨g, cap, cur, rfl, h1, h2, _⟩
  · simp [Value.ownBlock] at hm
  · simp [Value.ownBlock] at hm
    subst hm
    exact ⟨cur, h2⟩
theorem own_ne {α : Type} {enc : α → List Value} {n B : Nat} {w : World} {t t' : TypeId} {v : Value} {l : List α} {b : Nat} {cs : Array Value} (h : Owns enc n B w t v l) (hb : w.heap[b]? = some (.cells cs t' (0, 0))) (ht : t' ≠ t) : v.ownBlock ≠ some b := by
  intro e
  obtain ⟨ds, hd⟩ := own_type h b e
  rw [hb] at hd
  simp at hd
  exact ht hd.2
theorem grown_below {w w' : World} (hb : Below w.heap.size w w') (row : Option Nat) : w.grownBy w' row := ⟨hb.os, hb.tape, hb.output, hb.size, fun j hj _ => hb.block j hj⟩
theorem grown_trans {w w1 w2 : World} {b : Nat} {row : Option Nat} (h : w.grownBy w1 (some b)) (h2 : w1.grownBy w2 row) (hr : ∀ m, row = some m → m = b ∨ w.heap.size ≤ m) : w.grownBy w2 (some b) := by
  refine ⟨h2.os.trans h.os, h2.tape.trans h.tape, h2.output.trans h.output, Nat.le_trans h.size h2.size, fun j hj hne => ?_⟩
  rw [h2.block j (Nat.lt_of_lt_of_le hj h.size) (fun e => by rcases hr j e.symm with e' | e'; exact hne (by rw [e']); omega), h.block j hj hne]
/-- One group while its first row is filled. -/
structure G0 (Bg : Nat) (w1 : World) (a : Option Addr) (c : Nat) (p i : Nat) (W : World) : Prop where
  bel : Below Bg w1 W
  box : W.heap[Bg]? = some (.cells #[.slice a i c, .slice none 0 0] 92 (0, 0))
  own : Owns (fun n => [I n]) 1 (Bg + 1) W 3 (.slice a i c) (seg p i)
theorem G0.step {Bg : Nat} {w1 W W' : World} {a : Option Addr} {c p i : Nat} (h : G0 Bg w1 a c p i W) (hb : Below W.heap.size W W') (hB : Bg ≤ W.heap.size) : G0 Bg w1 a c p i W' :=
  ⟨h.bel.trans (hb.mono hB), (hb.block _ (Array.getElem?_eq_some_iff.1 h.box).1).trans h.box, h.own.below hb⟩
theorem G0.put {Bg : Nat} {w1 W W' : World} {a : Option Addr} {c p i : Nat} {v' : Value} (h : G0 Bg w1 a c p i W) (hB : Bg + 1 ≤ W.heap.size) (hg : W.grownBy W' (Value.slice a i c).ownBlock)
    (ho : W'.ownsRow (Bg + 1) 3 1 v' (i + 1) ((seg p i).flatMap (fun n => [I n]) ++ [I ((p + i : Nat) : Int)])) :
    (W'.heap[Bg]? = some (.cells #[.slice a i c, .slice none 0 0] 92 (0, 0))) ∧ ∃ a' c', v' = .slice a' (i + 1) c' ∧ G0 Bg w1 a' c' p (i + 1) (W'.setCell ⟨Bg, 0, none⟩ v') := by
  have hne : some Bg ≠ (Value.slice a i c).ownBlock := fun e => by have := h.own.blk _ e.symm; omega
  have hbx := (hg.block Bg (by omega) hne).trans h.box
  have hO : Owns (fun n => [I n]) 1 (Bg + 1) W' 3 v' (seg p (i + 1)) := by
    rw [seg_succ]; refine Owns.snoc ?_; rw [seg_len]; exact ho
  obtain ⟨⟨a', c'⟩, hs, hr⟩ := own_row hO
  rw [seg_len] at hs
  refine ⟨hbx, a', c', hs, ?_⟩
  have hB' : Bg ≤ W'.heap.size := Nat.le_trans (by omega) hg.size
  refine ⟨?_, ?_, ?_⟩
  · exact (h.bel.grown hg (by omega) (fun k hk => by have := h.own.blk k hk; omega)).setCell (p := ⟨Bg, 0, none⟩) (Nat.le_refl _) v'
  · rw [heap_setCell_same _ _ _ _ _ _ hbx, hs]; rfl
  · rw [hs] at hO ⊢
    exact own_kept hO (grown_set _ _ _ _) (fun m hm e => by have := hO.blk m hm; cases e; omega)
/-- One group while its second row is filled. -/
structure G1 (Bg : Nat) (w1 : World) (B1 : Nat) (a : Option Addr) (c : Nat) (p m : Nat) (a1 : Option Addr) (c1 : Nat) (i : Nat) (W : World) : Prop where
  bel : Below Bg w1 W
  box : W.heap[Bg]? = some (.cells #[.slice a m c, .slice a1 i c1] 92 (0, 0))
  own : Owns (fun n => [I n]) 1 (Bg + 1) W 3 (.slice a m c) (seg p m)
  lt : ∀ j, (Value.slice a m c).ownBlock = some j → j < B1
  own1 : Owns (fun n => [I n]) 1 B1 W 3 (.slice a1 i c1) (seg (p + m) i)
  sz : B1 ≤ W.heap.size
theorem G0.next {Bg : Nat} {w1 W : World} {a : Option Addr} {c p m : Nat} (h : G0 Bg w1 a c p m W) : G1 Bg w1 W.heap.size a c p m none 0 0 W :=
  ⟨h.bel, h.box, h.own, own_lt h.own, Owns.nil, Nat.le_refl _⟩
theorem G1.step {Bg B1 : Nat} {w1 W W' : World} {a a1 : Option Addr} {c p m c1 i : Nat} (h : G1 Bg w1 B1 a c p m a1 c1 i W) (hb : Below W.heap.size W W') (hB : Bg ≤ W.heap.size) : G1 Bg w1 B1 a c p m a1 c1 i W' :=
  ⟨h.bel.trans (hb.mono hB), (hb.block _ (Array.getElem?_eq_some_iff.1 h.box).1).trans h.box, h.own.below hb, h.lt, h.own1.below hb, Nat.le_trans h.sz hb.size⟩
theorem G1.put {Bg B1 : Nat} {w1 W W' : World} {a a1 : Option Addr} {c p m c1 i : Nat} {v' : Value} (h : G1 Bg w1 B1 a c p m a1 c1 i W) (h1 : Bg < B1) (hB : B1 ≤ W.heap.size) (hg : W.grownBy W' (Value.slice a1 i c1).ownBlock)
    (ho : W'.ownsRow B1 3 1 v' (i + 1) ((seg (p + m) i).flatMap (fun n => [I n]) ++ [I ((p + m + i : Nat) : Int)])) :
    (W'.heap[Bg]? = some (.cells #[.slice a m c, .slice a1 i c1] 92 (0, 0))) ∧ ∃ a' c', v' = .slice a' (i + 1) c' ∧ G1 Bg w1 B1 a c p m a' c' (i + 1) (W'.setCell ⟨Bg, 1, none⟩ v') := by
  have hne : some Bg ≠ (Value.slice a1 i c1).ownBlock := fun e => by have := h.own1.blk _ e.symm; omega
  have hbx := (hg.block Bg (by omega) hne).trans h.box
  have hO : Owns (fun n => [I n]) 1 B1 W' 3 v' (seg (p + m) (i + 1)) := by
    rw [seg_succ]; refine Owns.snoc ?_; rw [seg_len]; exact ho
  have hO0 : Owns (fun n => [I n]) 1 (Bg + 1) W' 3 (.slice a m c) (seg p m) := own_kept h.own hg (fun j hj e => by have := h.lt j hj; have := h.own1.blk j e; omega)
  obtain ⟨⟨a', c'⟩, hs, hr⟩ := own_row hO
  rw [seg_len] at hs
  refine ⟨hbx, a', c', hs, ?_⟩
  have hB' : Bg ≤ W'.heap.size := Nat.le_trans (by omega) hg.size
  refine ⟨?_, ?_, ?_, h.lt, ?_, by simp; exact Nat.le_trans h.sz hg.size⟩
  · exact (h.bel.grown hg (by omega) (fun k hk => by have := h.own1.blk k hk; omega)).setCell (p := ⟨Bg, 1, none⟩) (Nat.le_refl _) v'
  · rw [heap_setCell_same _ _ _ _ _ _ hbx, hs]; rfl
  · exact own_kept hO0 (grown_set _ _ _ _) (fun m hm e => by have := hO0.blk m hm; cases e; omega)
  · rw [hs] at hO ⊢
    exact own_kept hO (grown_set _ _ _ _) (fun m hm e => by have := hO.blk m hm; cases e; omega)
/-- The groups so far. -/
structure GS (w : World) (tb : Nat) (cs : List Value) (ga : Option Addr) (gc : Nat) (g : Nat) (gs : List Gr) (W : World) : Prop where
  gb : w.grownBy W (some tb)
  tbk : W.heap[tb]? = some (.cells (cs.set 104 (.slice ga g gc)).toArray 32 (0, 0))
  own : Owns Gr.cells 2 w.heap.size W 92 (.slice ga g gc) gs
  len : gs.length = g
  rows : ∀ x ∈ gs, RowI W x.s0 x.r0 ∧ RowI W x.s1 x.r1
theorem GS.step {w W W' : World} {tb : Nat} {cs : List Value} {ga : Option Addr} {gc g : Nat} {gs : List Gr} (h : GS w tb cs ga gc g gs W) (hb : Below W.heap.size W W') : GS w tb cs ga gc g gs W' :=
  ⟨grown_trans h.gb (grown_below hb none) (fun m e => by cases e), (hb.block _ (Array.getElem?_eq_some_iff.1 h.tbk).1).trans h.tbk, h.own.below hb, h.len, fun x hx => ⟨(h.rows x hx).1.below hb, (h.rows x hx).2.below hb⟩⟩
theorem GS.put {w W W' : World} {tb : Nat} {cs : List Value} {ga : Option Addr} {gc g : Nat} {gs : List Gr} {v' : Value} (x : Gr) (h : GS w tb cs ga gc g gs W) (hx : RowI W x.s0 x.r0 ∧ RowI W x.s1 x.r1) (hg : W.grownBy W' (Value.slice ga g gc).ownBlock) (hc : cs.length = 131)
    (ho : W'.ownsRow w.heap.size 92 2 v' (g + 1) (gs.flatMap Gr.cells ++ x.cells)) :
    (W'.heap[tb]? = some (.cells (cs.set 104 (.slice ga g gc)).toArray 32 (0, 0))) ∧ ∃ a' c', v' = .slice a' (g + 1) c' ∧ GS w tb cs a' c' (g + 1) (gs ++ [x]) (W'.setCell ⟨tb, 104, none⟩ v') := by
  have hne : some tb ≠ (Value.slice ga g gc).ownBlock := fun e => own_ne h.own h.tbk (by decide) e.symm
  have hbx := (hg.block tb (Array.getElem?_eq_some_iff.1 h.tbk).1 hne).trans h.tbk
  have hO : Owns Gr.cells 2 w.heap.size W' 92 v' (gs ++ [x]) := Owns.snoc (by rw [h.len]; exact ho)
  obtain ⟨⟨a', c'⟩, hs, hr⟩ := Owns.row hO (fun _ => rfl)
  have hs2 : v' = .slice a' (g + 1) c' := by rw [hs, List.length_append, h.len]; rfl
  have hK : ∀ s l, RowI W s l → RowI (W'.setCell ⟨tb, 104, none⟩ v') s l := fun s l hr => by
    have h1 : RowI W' s l := hr.grown hg (fun y hy e => by
      obtain ⟨ds, hd⟩ := own_type h.own _ e.symm
      exact hr.ne hd (by decide) y hy rfl)
    exact h1.grown (grown_set _ _ _ _) (fun y hy e => h1.ne hbx (by decide) y hy (by cases e; rfl))
  refine ⟨hbx, a', c', hs2, ?_, ?_, ?_, by rw [List.length_append, h.len]; rfl, ?_⟩
  · exact grown_trans (grown_trans h.gb hg (fun m e => .inr (h.own.blk m e))) (grown_set _ _ _ _) (fun m e => .inl (by cases e; rfl))
  · rw [heap_setCell_same _ _ _ _ _ _ hbx, hs2]
    simp
  · rw [← hs2]
    exact own_kept hO (grown_set _ _ _ _) (fun m hm e => by cases e; exact own_ne hO hbx (by decide) hm)
  · intro y hy
    rcases List.mem_append.1 hy with hy | hy
    · exact ⟨hK _ _ (h.rows y hy).1, hK _ _ (h.rows y hy).2⟩
    · obtain rfl : y = x := by simpa using hy
      exact ⟨hK _ _ hx.1, hK _ _ hx.2⟩
theorem from_at (a : Option Addr) (cap : Nat) (L : List Int) (i j n : Int) (hij : i = j) (w : World) (h : IntRow w ⟨a, cap⟩ L) (h0 : 0 ≤ i) (hn : 0 < n) (hn' : n ≤ 1000) :
    Calls Try.prog 27 #[.slice a L.length cap, .int .i64 i, .int .i64 n] w fun e w' => e = .returned (.int .i64 (num L j n)) ∧ w = w' := by
  subst hij; exact from_any a cap L i n w h h0 hn hn'
theorem infoGz : (Try.prog.info? 92).map (fun i => (i.zero, i.size)) = some (some (.agg #[.slice none 0 0, .slice none 0 0]), 2) := by kernel_rfl
theorem infoG2 : (Try.prog.info? 92).map (·.size) = some 2 := by kernel_rfl
theorem infoG3 : (Try.prog.info? 92).map (fun i => (i.zero, i.size, i.bytes)) = some (some (.agg #[.slice none 0 0, .slice none 0 0]), 2, 48) := by kernel_rfl
end GenG
namespace GenP
open Go.ChangeShapes Go.WideShapes Go.ChangeAt Go.RowKit
open Tab Clone RefS
open May (infoP)
open Same (below_setRow)
theorem infoPz : (Try.prog.info? 24).map (fun i => (i.zero, i.size)) = some (some (.agg zPh.cells.toArray), 13) := by kernel_rfl
def recall (x walk : Int) : Int := if x > 3 ∨ x = 3 ∧ walk = 0 then 0 else x
/-- A phase by twelve numbers. -/
def genPh (L : List Int) (i : Int) : Ph :=
  let min := 1 + num L i 12
  let max := min + num L (i + 5) 25
  let walks := num L (i + 7) 2 = 1
  let walk := if walks then 1 + num L (i + 8) 10 else 0
  ⟨true, min, num L (i + 1) 9, max, max + num L (i + 6) 15, 1 + num L (i + 2) 6, 10 + num L (i + 3) 4, num L (i + 4) 5, walk, if walks then 1 + num L (i + 8) 97 / 10 else 0, recall (num L (i + 9) 7) walk, decide (num L (i + 10) 3 > 0), decide (num L (i + 11) 4 = 1)⟩
theorem phase_any (a : Option Addr) (cap : Nat) (L : List Int) (i : Int) (w : World) (h : IntRow w ⟨a, cap⟩ L) (h0 : 0 ≤ i) (h1 : i ≤ 100000) :
    Calls Try.prog 26 #[.slice a L.length cap, .int .i64 i] w fun e w' => e = .returned (.agg (genPh L i).cells.toArray) ∧ Below w.heap.size w w' := by
  obtain ⟨x0, hx0, ⟨r0, s0⟩, F0⟩ : ∃ x : Int, x = num L i 12 ∧ (0 ≤ x ∧ x < 12) ∧ Hid (∀ W, Below w.heap.size w W → Calls Try.prog 27 #[.slice a L.length cap, .int .i64 i, .int .i64 12] W fun e w' => e = .returned (.int .i64 x) ∧ w' = W) := ⟨_, rfl, num_range _ _ _ (by omega), Lib.hid (fun W hb => (from_any a cap L _ _ W (h.below hb) (by omega) (by omega) (by omega)).mono fun _ _ ⟨e, q⟩ => ⟨e, q.symm⟩)⟩
  obtain ⟨x1, hx1, ⟨r1, s1⟩, F1⟩ : ∃ x : Int, x = num L (i + 1) 9 ∧ (0 ≤ x ∧ x < 9) ∧ Hid (∀ W, Below w.heap.size w W → Calls Try.prog 27 #[.slice a L.length cap, .int .i64 (i + 1), .int .i64 9] W fun e w' => e = .returned (.int .i64 x) ∧ w' = W) := ⟨_, rfl, num_range _ _ _ (by omega), Lib.hid (fun W hb => (from_any a cap L _ _ W (h.below hb) (by omega) (by omega) (by omega)).mono fun _ _ ⟨e, q⟩ => ⟨e, q.symm⟩)⟩
  obtain ⟨x2, hx2, ⟨r2, s2⟩, F2⟩ : ∃ x : Int, x = num L (i + 2) 6 ∧ (0 ≤ x ∧ x < 6) ∧ Hid (∀ W, Below w.heap.size w W → Calls Try.prog 27 #[.slice a L.length cap, .int .i64 (i + 2), .int .i64 6] W fun e w' => e = .returned (.int .i64 x) ∧ w' = W) := ⟨_, rfl, num_range _ _ _ (by omega), Lib.hid (fun W hb => (from_any a cap L _ _ W (h.below hb) (by omega) (by omega) (by omega)).mono fun _ _ ⟨e, q⟩ => ⟨e, q.symm⟩)⟩
  obtain ⟨x3, hx3, ⟨r3, s3⟩, F3⟩ : ∃ x : Int, x = num L (i + 3) 4 ∧ (0 ≤ x ∧ x < 4) ∧ Hid (∀ W, Below w.heap.size w W → Calls Try.prog 27 #[.slice a L.length cap, .int .i64 (i + 3), .int .i64 4] W fun e w' => e = .returned (.int .i64 x) ∧ w' = W) := ⟨_, rfl, num_range _ _ _ (by omega), Lib.hid (fun W hb => (from_any a cap L _ _ W (h.below hb) (by omega) (by omega) (by omega)).mono fun _ _ ⟨e, q⟩ => ⟨e, q.symm⟩)⟩
  obtain ⟨x4, hx4, ⟨r4, s4⟩, F4⟩ : ∃ x : Int, x = num L (i + 4) 5 ∧ (0 ≤ x ∧ x < 5) ∧ Hid (∀ W, Below w.heap.size w W → Calls Try.prog 27 #[.slice a L.length cap, .int .i64 (i + 4), .int .i64 5] W fun e w' => e = .returned (.int .i64 x) ∧ w' = W) := ⟨_, rfl, num_range _ _ _ (by omega), Lib.hid (fun W hb => (from_any a cap L _ _ W (h.below hb) (by omega) (by omega) (by omega)).mono fun _ _ ⟨e, q⟩ => ⟨e, q.symm⟩)⟩
  obtain ⟨x5, hx5, ⟨r5, s5⟩, F5⟩ : ∃ x : Int, x = num L (i + 5) 25 ∧ (0 ≤ x ∧ x < 25) ∧ Hid (∀ W, Below w.heap.size w W → Calls Try.prog 27 #[.slice a L.length cap, .int .i64 (i + 5), .int .i64 25] W fun e w' => e = .returned (.int .i64 x) ∧ w' = W) := ⟨_, rfl, num_range _ _ _ (by omega), Lib.hid (fun W hb => (from_any a cap L _ _ W (h.below hb) (by omega) (by omega) (by omega)).mono fun _ _ ⟨e, q⟩ => ⟨e, q.symm⟩)⟩
  obtain ⟨x6, hx6, ⟨r6, s6⟩, F6⟩ : ∃ x : Int, x = num L (i + 6) 15 ∧ (0 ≤ x ∧ x < 15) ∧ Hid (∀ W, Below w.heap.size w W → Calls Try.prog 27 #[.slice a L.length cap, .int .i64 (i + 6), .int .i64 15] W fun e w' => e = .returned (.int .i64 x) ∧ w' = W) := ⟨_, rfl, num_range _ _ _ (by omega), Lib.hid (fun W hb => (from_any a cap L _ _ W (h.below hb) (by omega) (by omega) (by omega)).mono fun _ _ ⟨e, q⟩ => ⟨e, q.symm⟩)⟩
  obtain ⟨x7, hx7, ⟨r7, s7⟩, F7⟩ : ∃ x : Int, x = num L (i + 7) 2 ∧ (0 ≤ x ∧ x < 2) ∧ Hid (∀ W, Below w.heap.size w W → Calls Try.prog 27 #[.slice a L.length cap, .int .i64 (i + 7), .int .i64 2] W fun e w' => e = .returned (.int .i64 x) ∧ w' = W) := ⟨_, rfl, num_range _ _ _ (by omega), Lib.hid (fun W hb => (from_any a cap L _ _ W (h.below hb) (by omega) (by omega) (by omega)).mono fun _ _ ⟨e, q⟩ => ⟨e, q.symm⟩)⟩
  obtain ⟨x8, hx8, ⟨r8, s8⟩, F8⟩ : ∃ x : Int, x = num L (i + 8) 10 ∧ (0 ≤ x ∧ x < 10) ∧ Hid (∀ W, Below w.heap.size w W → Calls Try.prog 27 #[.slice a L.length cap, .int .i64 (i + 8), .int .i64 10] W fun e w' => e = .returned (.int .i64 x) ∧ w' = W) := ⟨_, rfl, num_range _ _ _ (by omega), Lib.hid (fun W hb => (from_any a cap L _ _ W (h.below hb) (by omega) (by omega) (by omega)).mono fun _ _ ⟨e, q⟩ => ⟨e, q.symm⟩)⟩
  obtain ⟨xb, hxb, ⟨rb, sb⟩, Fb⟩ : ∃ x : Int, x = num L (i + 8) 97 ∧ (0 ≤ x ∧ x < 97) ∧ Hid (∀ W, Below w.heap.size w W → Calls Try.prog 27 #[.slice a L.length cap, .int .i64 (i + 8), .int .i64 97] W fun e w' => e = .returned (.int .i64 x) ∧ w' = W) := ⟨_, rfl, num_range _ _ _ (by omega), Lib.hid (fun W hb => (from_any a cap L _ _ W (h.below hb) (by omega) (by omega) (by omega)).mono fun _ _ ⟨e, q⟩ => ⟨e, q.symm⟩)⟩
  obtain ⟨x9, hx9, ⟨r9, s9⟩, F9⟩ : ∃ x : Int, x = num L (i + 9) 7 ∧ (0 ≤ x ∧ x < 7) ∧ Hid (∀ W, Below w.heap.size w W → Calls Try.prog 27 #[.slice a L.length cap, .int .i64 (i + 9), .int .i64 7] W fun e w' => e = .returned (.int .i64 x) ∧ w' = W) := ⟨_, rfl, num_range _ _ _ (by omega), Lib.hid (fun W hb => (from_any a cap L _ _ W (h.below hb) (by omega) (by omega) (by omega)).mono fun _ _ ⟨e, q⟩ => ⟨e, q.symm⟩)⟩
  obtain ⟨xt, hxt, ⟨rt, st⟩, Ft⟩ : ∃ x : Int, x = num L (i + 10) 3 ∧ (0 ≤ x ∧ x < 3) ∧ Hid (∀ W, Below w.heap.size w W → Calls Try.prog 27 #[.slice a L.length cap, .int .i64 (i + 10), .int .i64 3] W fun e w' => e = .returned (.int .i64 x) ∧ w' = W) := ⟨_, rfl, num_range _ _ _ (by omega), Lib.hid (fun W hb => (from_any a cap L _ _ W (h.below hb) (by omega) (by omega) (by omega)).mono fun _ _ ⟨e, q⟩ => ⟨e, q.symm⟩)⟩
  obtain ⟨xe, hxe, ⟨re, se⟩, Fe⟩ : ∃ x : Int, x = num L (i + 11) 4 ∧ (0 ≤ x ∧ x < 4) ∧ Hid (∀ W, Below w.heap.size w W → Calls Try.prog 27 #[.slice a L.length cap, .int .i64 (i + 11), .int .i64 4] W fun e w' => e = .returned (.int .i64 x) ∧ w' = W) := ⟨_, rfl, num_range _ _ _ (by omega), Lib.hid (fun W hb => (from_any a cap L _ _ W (h.below hb) (by omega) (by omega) (by omega)).mono fun _ _ ⟨e, q⟩ => ⟨e, q.symm⟩)⟩
  have RES : Hid (genPh L i = ⟨true, 1 + x0, x1, 1 + x0 + x5, 1 + x0 + x5 + x6, 1 + x2, 10 + x3, x4, if x7 = 1 then 1 + x8 else 0, if x7 = 1 then 1 + xb / 10 else 0, recall x9 (if x7 = 1 then 1 + x8 else 0), decide (xt > 0), decide (xe = 1)⟩) := Lib.hid (by subst hx0 hx1 hx2 hx3 hx4 hx5 hx6 hx7 hx8 hxb hx9 hxt hxe; rfl)
  generalize genPh L i = R at RES ⊢
  clear hx0 hx1 hx2 hx3 hx4 hx5 hx6 hx7 hx8 hxb hx9 hxt hxe h
  have hz := (zero_of_info infoPz).1
  have HB : Hid (Below w.heap.size w (w.alloc (.cells zPh.cells.toArray 24))) := Lib.hid ((Below.refl _ _).alloc (Nat.le_refl _) _)
  have hg := heap_alloc_new w (.cells zPh.cells.toArray 24)
  have hs : (w.alloc (.cells zPh.cells.toArray 24)).heap.size = w.heap.size + 1 := by simp
  have HG := Lib.hid hg
  have HS := Lib.hid hs
  clear hg hs
  simp only [zPh, Ph.cells] at hz HB HG HS
  go_enter Try.func26, Try.ntmps26
  go_upto_region 1 with fail
  generalize (World.alloc w _) = u at HB HG HS ⊢
  go_wp2_with fail
  refine (F0.out _ HB.out).mono ?_
  rintro e w' ⟨rfl, hq⟩
  subst w'
  go_wp2_with fail
  refine (F1.out _ HB.out).mono ?_
  rintro e w' ⟨rfl, hq⟩
  subst w'
  go_wp2_with fail
  refine (F2.out _ HB.out).mono ?_
  rintro e w' ⟨rfl, hq⟩
  subst w'
  go_wp2_with fail
  refine (F3.out _ HB.out).mono ?_
  rintro e w' ⟨rfl, hq⟩
  subst w'
  go_wp2_with fail
  refine (F4.out _ HB.out).mono ?_
  rintro e w' ⟨rfl, hq⟩
  subst w'
  go_upto_region 2 with (refine Row.wpList_store_new rfl 24 _ _ rfl u _ #[.bool true, I (1 + x0), I x1, I 0, I 0, I (1 + x2), I (10 + x3), I x4, I 0, I 0, I 0, .bool false, .bool false] rfl rfl rfl infoP rfl (by simp [Value.oneCell']) ?_)
  (try dsimp only [Act.put])
  have hb := HB.out.alloc HB.out.size (.cells #[.bool true, I (1 + x0), I x1, I 0, I 0, I (1 + x2), I (10 + x3), I x4, I 0, I 0, I 0, .bool false, .bool false] 24)
  have g5 := heap_alloc_new u (.cells #[.bool true, I (1 + x0), I x1, I 0, I 0, I (1 + x2), I (10 + x3), I x4, I 0, I 0, I 0, .bool false, .bool false] 24)
  have g4 := (Below.heap_alloc u (.cells #[.bool true, I (1 + x0), I x1, I 0, I 0, I (1 + x2), I (10 + x3), I x4, I 0, I 0, I 0, .bool false, .bool false] 24) w.heap.size (by have := HS.out; omega)).trans HG.out
  have b5lt : w.heap.size < u.heap.size := by have := HS.out; omega
  clear HB HG HS
  generalize World.alloc u _ = u0 at g4 g5 hb ⊢
  generalize u.heap.size = b5 at g5 b5lt ⊢
  have G4 := Lib.hid g4
  have G5 := Lib.hid g5
  have HB := Lib.hid hb
  clear g4 g5 hb
  have e0 : IntKind.i64.wrap (i + 5) = i + 5 := by rw [IntKind.wrap_i64]; omega
  have e1 : IntKind.i64.wrap (1 + x0 + x5) = 1 + x0 + x5 := by rw [IntKind.wrap_i64]; omega
  have g4 : u0.drew.heap[w.heap.size]? = some (.cells #[.bool false, .int .i64 0, .int .i64 0, .int .i64 0, .int .i64 0, .int .i64 0, .int .i64 0, .int .i64 0, .int .i64 0, .int .i64 0, .int .i64 0, .bool false, .bool false] 24 (0, 0)) := G4.out
  have g5 : u0.drew.heap[b5]? = some (.cells #[.bool true, I (1 + x0), I x1, I 0, I 0, I (1 + x2), I (10 + x3), I x4, I 0, I 0, I 0, .bool false, .bool false] 24 (0, 0)) := G5.out
  have hb : Below w.heap.size w u0.drew := HB.out.drew
  clear G4 G5 HB
  refine QB.region_tail 8 (by kernel_rfl) (by kernel_rfl) ?_
  generalize World.drew u0 = u1 at g4 g5 hb ⊢
  have G4 := Lib.hid g4
  have G5 := Lib.hid g5
  have HB := Lib.hid hb
  clear g4 g5 hb
  have c1 : u1.cell? ⟨b5, 1, none⟩ = some (I (1 + x0)) := by rw [cell_of_row _ _ _ _ _ _ G5.out]; rfl
  have c3 : u1.cell? ⟨b5, 3, none⟩ = some (I 0) := by rw [cell_of_row _ _ _ _ _ _ G5.out]; rfl
  have f3 : u1.frozen? ⟨b5, 3, none⟩ = false := frozen_of_row _ _ _ _ _ G5.out
  simp only [List.take_succ_cons, List.take_zero, List.drop_succ_cons, List.drop_zero]
  repeat still_step
  still_call (F5.out _ HB.out)
  repeat still_step
  refine wpStill_nil ?_
  go_upto_region 3 with fail
  clear e0 e1
  have g5 := heap_setCell_same u1 b5 3 _ _ (I (1 + x0 + x5)) G5.out
  simp only [List.setIfInBounds_toArray, List.set_cons_succ, List.set_cons_zero] at g5
  have g4 := (Below.heap_setCell u1 ⟨b5, 3, none⟩ (I (1 + x0 + x5)) w.heap.size (by simp; omega)).trans G4.out
  have hb := Owned.below_write HB.out (g := b5) (i := 3) (by omega) (I (1 + x0 + x5))
  clear c1 c3 f3 G4 G5 HB
  generalize World.setCell u1 ⟨b5, 3, none⟩ (I (1 + x0 + x5)) = u2 at g4 g5 hb ⊢
  have G4 := Lib.hid g4
  have G5 := Lib.hid g5
  have HB := Lib.hid hb
  clear g4 g5 hb
  have e0 : IntKind.i64.wrap (i + 6) = i + 6 := by rw [IntKind.wrap_i64]; omega
  have e1 : IntKind.i64.wrap (1 + x0 + x5 + x6) = 1 + x0 + x5 + x6 := by rw [IntKind.wrap_i64]; omega
  have g4 : u2.drew.heap[w.heap.size]? = some (.cells #[.bool false, .int .i64 0, .int .i64 0, .int .i64 0, .int .i64 0, .int .i64 0, .int .i64 0, .int .i64 0, .int .i64 0, .int .i64 0, .int .i64 0, .bool false, .bool false] 24 (0, 0)) := G4.out
  have g5 : u2.drew.heap[b5]? = some (.cells #[.bool true, I (1 + x0), I x1, I (1 + x0 + x5), I 0, I (1 + x2), I (10 + x3), I x4, I 0, I 0, I 0, .bool false, .bool false] 24 (0, 0)) := G5.out
  have hb : Below w.heap.size w u2.drew := HB.out.drew
  clear G4 G5 HB
  refine QB.region_tail 8 (by kernel_rfl) (by kernel_rfl) ?_
  generalize World.drew u2 = u3 at g4 g5 hb ⊢
  have G4 := Lib.hid g4
  have G5 := Lib.hid g5
  have HB := Lib.hid hb
  clear g4 g5 hb
  have c3 : u3.cell? ⟨b5, 3, none⟩ = some (I (1 + x0 + x5)) := by rw [cell_of_row _ _ _ _ _ _ G5.out]; rfl
  have c4 : u3.cell? ⟨b5, 4, none⟩ = some (I 0) := by rw [cell_of_row _ _ _ _ _ _ G5.out]; rfl
  have f4 : u3.frozen? ⟨b5, 4, none⟩ = false := frozen_of_row _ _ _ _ _ G5.out
  simp only [List.take_succ_cons, List.take_zero, List.drop_succ_cons, List.drop_zero]
  repeat still_step
  still_call (F6.out _ HB.out)
  repeat still_step
  refine wpStill_nil ?_
  go_upto_region 4 with fail
  clear e0 e1
  have g5 := heap_setCell_same u3 b5 4 _ _ (I (1 + x0 + x5 + x6)) G5.out
  simp only [List.setIfInBounds_toArray, List.set_cons_succ, List.set_cons_zero] at g5
  have g4 := (Below.heap_setCell u3 ⟨b5, 4, none⟩ (I (1 + x0 + x5 + x6)) w.heap.size (by simp; omega)).trans G4.out
  have hb := Owned.below_write HB.out (g := b5) (i := 4) (by omega) (I (1 + x0 + x5 + x6))
  clear c3 c4 f4 G4 G5 HB
  generalize World.setCell u3 ⟨b5, 4, none⟩ (I (1 + x0 + x5 + x6)) = u4 at g4 g5 hb ⊢
  have G4 := Lib.hid g4
  have G5 := Lib.hid g5
  have HB := Lib.hid hb
  clear g4 g5 hb
  go_wp2_with fail
  refine (F7.out _ HB.out).mono ?_
  rintro e w' ⟨rfl, hq⟩
  subst w'
  by_cases h7 : x7 = 1
  · have H7 := Lib.hid h7
    have e7 : (x7 == 1) = true := by simpa using h7
    clear h7
    go_upto_region 5 with fail
    have c8 : u4.cell? ⟨b5, 8, none⟩ = some (I 0) := by rw [cell_of_row _ _ _ _ _ _ G5.out]; rfl
    have f8 : u4.frozen? ⟨b5, 8, none⟩ = false := frozen_of_row _ _ _ _ _ G5.out
    go_wp2_with fail
    refine (F8.out _ HB.out).mono ?_
    rintro e w' ⟨rfl, hq⟩
    subst w'
    go_upto_region 6 with fail
    have g5 := heap_setCell_same u4 b5 8 _ _ (I (1 + x8)) G5.out
    simp only [List.setIfInBounds_toArray, List.set_cons_succ, List.set_cons_zero] at g5
    have g4 := (Below.heap_setCell u4 ⟨b5, 8, none⟩ (I (1 + x8)) w.heap.size (by simp; omega)).trans G4.out
    have hb := Owned.below_write HB.out (g := b5) (i := 8) (by omega) (I (1 + x8))
    clear c8 f8 G4 G5 HB
    generalize World.setCell u4 ⟨b5, 8, none⟩ (I (1 + x8)) = u5 at g4 g5 hb ⊢
    have G4 := Lib.hid g4
    have G5 := Lib.hid g5
    have HB := Lib.hid hb
    clear g4 g5 hb
    have c9 : u5.cell? ⟨b5, 9, none⟩ = some (I 0) := by rw [cell_of_row _ _ _ _ _ _ G5.out]; rfl
    have f9 : u5.frozen? ⟨b5, 9, none⟩ = false := frozen_of_row _ _ _ _ _ G5.out
    go_wp2_with fail
    refine (Fb.out _ HB.out).mono ?_
    rintro e w' ⟨rfl, hq⟩
    subst w'
    go_upto_region 7 with fail
    have g5 := heap_setCell_same u5 b5 9 _ _ (I (1 + xb / 10)) G5.out
    simp only [List.setIfInBounds_toArray, List.set_cons_succ, List.set_cons_zero] at g5
    have g4 := (Below.heap_setCell u5 ⟨b5, 9, none⟩ (I (1 + xb / 10)) w.heap.size (by simp; omega)).trans G4.out
    have hb := Owned.below_write HB.out (g := b5) (i := 9) (by omega) (I (1 + xb / 10))
    clear c9 f9 G4 G5 HB
    generalize World.setCell u5 ⟨b5, 9, none⟩ (I (1 + xb / 10)) = u6 at g4 g5 hb ⊢
    have G4 := Lib.hid g4
    have G5 := Lib.hid g5
    have HB := Lib.hid hb
    clear g4 g5 hb
    have c10 : u6.cell? ⟨b5, 10, none⟩ = some (I 0) := by rw [cell_of_row _ _ _ _ _ _ G5.out]; rfl
    have f10 : u6.frozen? ⟨b5, 10, none⟩ = false := frozen_of_row _ _ _ _ _ G5.out
    go_wp2_with fail
    refine (F9.out _ HB.out).mono ?_
    rintro e w' ⟨rfl, hq⟩
    subst w'
    go_upto_region 8 with fail
    have g5 := heap_setCell_same u6 b5 10 _ _ (I x9) G5.out
    simp only [List.setIfInBounds_toArray, List.set_cons_succ, List.set_cons_zero] at g5
    have g4 := (Below.heap_setCell u6 ⟨b5, 10, none⟩ (I x9) w.heap.size (by simp; omega)).trans G4.out
    have hb := Owned.below_write HB.out (g := b5) (i := 10) (by omega) (I x9)
    clear c10 f10 G4 G5 HB
    generalize World.setCell u6 ⟨b5, 10, none⟩ (I x9) = u7 at g4 g5 hb ⊢
    have G4 := Lib.hid g4
    have G5 := Lib.hid g5
    have HB := Lib.hid hb
    clear g4 g5 hb
    have c8 : u7.cell? ⟨b5, 8, none⟩ = some (I (1 + x8)) := by rw [cell_of_row _ _ _ _ _ _ G5.out]; rfl
    have c10 : u7.cell? ⟨b5, 10, none⟩ = some (I x9) := by rw [cell_of_row _ _ _ _ _ _ G5.out]; rfl
    have f10 : u7.frozen? ⟨b5, 10, none⟩ = false := frozen_of_row _ _ _ _ _ G5.out
    by_cases h9 : x9 > 3
    · have RC : Hid (recall x9 (1 + x8) = 0) := Lib.hid (by unfold recall; rw [if_pos (by omega)])
      have H9 := Lib.hid h9
      have q9 : ¬ (x9 ≤ 3) := by omega
      go_upto_region 10 with fail
      have g5 := heap_setCell_same u7 b5 10 _ _ (I 0) G5.out
      simp only [List.setIfInBounds_toArray, List.set_cons_succ, List.set_cons_zero] at g5
      have g4 := (Below.heap_setCell u7 ⟨b5, 10, none⟩ (I 0) w.heap.size (by simp; omega)).trans G4.out
      have hb := Owned.below_write HB.out (g := b5) (i := 10) (by omega) (I 0)
      clear c8 c10 f10 G4 G5 HB
      generalize World.setCell u7 ⟨b5, 10, none⟩ (I 0) = u8 at g4 g5 hb ⊢
      have G4 := Lib.hid g4
      have G5 := Lib.hid g5
      have HB := Lib.hid hb
      clear g4 g5 hb
      have c11 : u8.cell? ⟨b5, 11, none⟩ = some (.bool false) := by rw [cell_of_row _ _ _ _ _ _ G5.out]; rfl
      have f11 : u8.frozen? ⟨b5, 11, none⟩ = false := frozen_of_row _ _ _ _ _ G5.out
      go_wp2_with fail
      refine (Ft.out _ HB.out).mono ?_
      rintro e w' ⟨rfl, hq⟩
      subst w'
      go_upto_region 11 with fail
      have g5 := heap_setCell_same u8 b5 11 _ _ (.bool (decide (xt > 0))) G5.out
      simp only [List.setIfInBounds_toArray, List.set_cons_succ, List.set_cons_zero] at g5
      have g4 := (Below.heap_setCell u8 ⟨b5, 11, none⟩ (.bool (decide (xt > 0))) w.heap.size (by simp; omega)).trans G4.out
      have hb := Owned.below_write HB.out (g := b5) (i := 11) (by omega) (.bool (decide (xt > 0)))
      clear c11 f11 G4 G5 HB
      generalize World.setCell u8 ⟨b5, 11, none⟩ (.bool (decide (xt > 0))) = u9 at g4 g5 hb ⊢
      have G4 := Lib.hid g4
      have G5 := Lib.hid g5
      have HB := Lib.hid hb
      clear g4 g5 hb
      have c12 : u9.cell? ⟨b5, 12, none⟩ = some (.bool false) := by rw [cell_of_row _ _ _ _ _ _ G5.out]; rfl
      have f12 : u9.frozen? ⟨b5, 12, none⟩ = false := frozen_of_row _ _ _ _ _ G5.out
      go_wp2_with fail
      refine (Fe.out _ HB.out).mono ?_
      rintro e w' ⟨rfl, hq⟩
      subst w'
      go_upto_region 12 with fail
      have g5 := heap_setCell_same u9 b5 12 _ _ (.bool (decide (xe = 1))) G5.out
      simp only [List.setIfInBounds_toArray, List.set_cons_succ, List.set_cons_zero] at g5
      have g4 := (Below.heap_setCell u9 ⟨b5, 12, none⟩ (.bool (decide (xe = 1))) w.heap.size (by simp; omega)).trans G4.out
      have hb := Owned.below_write HB.out (g := b5) (i := 12) (by omega) (.bool (decide (xe = 1)))
      clear c12 f12 G4 G5 HB
      generalize World.setCell u9 ⟨b5, 12, none⟩ (.bool (decide (xe = 1))) = u10 at g4 g5 hb ⊢
      have G4 := Lib.hid g4
      have G5 := Lib.hid g5
      have HB := Lib.hid hb
      clear g4 g5 hb
      have FIN : Hid (R.cells.toArray = #[.bool true, I (1 + x0), I x1, I (1 + x0 + x5), I (1 + x0 + x5 + x6), I (1 + x2), I (10 + x3), I x4, I (1 + x8), I (1 + xb / 10), I 0, .bool (decide (xt > 0)), .bool (decide (xe = 1))]) := Lib.hid (by rw [RES.out]; simp only [Ph.cells, if_pos H7.out, RC.out])
      have LV : Hid (Lies u10 ⟨b5, 0, none⟩ #[.bool true, I (1 + x0), I x1, I (1 + x0 + x5), I (1 + x0 + x5 + x6), I (1 + x2), I (10 + x3), I x4, I (1 + x8), I (1 + xb / 10), I 0, .bool (decide (xt > 0)), .bool (decide (xe = 1))].toList) := Lib.hid (Row.lies_of_block G5.out)
      have HG := Lib.hid (below_setRow HB.out (g := w.heap.size) (Nat.le_refl _) #[.bool true, I (1 + x0), I x1, I (1 + x0 + x5), I (1 + x0 + x5 + x6), I (1 + x2), I (10 + x3), I x4, I (1 + x8), I (1 + xb / 10), I 0, .bool (decide (xt > 0)), .bool (decide (xe = 1))])
      have HK := Lib.hid (setRow_heap u10 w.heap.size _ #[.bool true, I (1 + x0), I x1, I (1 + x0 + x5), I (1 + x0 + x5 + x6), I (1 + x2), I (10 + x3), I x4, I (1 + x8), I (1 + xb / 10), I 0, .bool (decide (xt > 0)), .bool (decide (xe = 1))] _ _ G4.out)
      go_wp2_with (first | (refine Row.wpList_load_g 24 _ rfl (by first | rfl | go_simp) ⟨b5, 0, none⟩ rfl #[.bool true, I (1 + x0), I x1, I (1 + x0 + x5), I (1 + x0 + x5 + x6), I (1 + x2), I (10 + x3), I x4, I (1 + x8), I (1 + xb / 10), I 0, .bool (decide (xt > 0)), .bool (decide (xe = 1))].toList _ LV.out Try.underlying24 rfl infoP ?_) | (refine wpList_store_row rfl 24 _ _ rfl w.heap.size #[.bool true, I (1 + x0), I x1, I (1 + x0 + x5), I (1 + x0 + x5 + x6), I (1 + x2), I (10 + x3), I x4, I (1 + x8), I (1 + xb / 10), I 0, .bool (decide (xt > 0)), .bool (decide (xe = 1))] rfl rfl 24 _ G4.out infoP rfl (by simp [Value.oneCell']) ?_))
      generalize u10.setRow w.heap.size #[.bool true, I (1 + x0), I x1, I (1 + x0 + x5), I (1 + x0 + x5 + x6), I (1 + x2), I (10 + x3), I x4, I (1 + x8), I (1 + xb / 10), I 0, .bool (decide (xt > 0)), .bool (decide (xe = 1))] = uz at HG HK ⊢
      go_wp2_with fail
      (try simp only [Exit.inBlock, Exit.then])
      refine bodyPost_ret (v := .agg #[.bool true, I (1 + x0), I x1, I (1 + x0 + x5), I (1 + x0 + x5 + x6), I (1 + x2), I (10 + x3), I x4, I (1 + x8), I (1 + xb / 10), I 0, .bool (decide (xt > 0)), .bool (decide (xe = 1))]) ?_ rfl ⟨by rw [FIN.out], HG.out⟩
      exact results_cell_row rfl _ _ w.heap.size 24 _ (0, 0) _ rfl HK.out Try.underlying24 rfl infoP
    · have RC : Hid (recall x9 (1 + x8) = x9) := Lib.hid (by unfold recall; rw [if_neg (by omega)])
      have H9 := Lib.hid h9
      have q9 : x9 ≤ 3 := by omega
      have q8 : (1 + x8 == 0) = false := by rw [beq_eq_false_iff_ne]; omega
      have Q8 := Lib.hid (show ¬ (1 + x8 = 0) from by omega)
      by_cases h3 : x9 = 3
      · have e3 : (x9 == 3) = true := by simpa using h3
        clear h3 h9
        go_upto_region 10 with fail
        clear c8 c10 f10 e3 q8
        have c11 : u7.cell? ⟨b5, 11, none⟩ = some (.bool false) := by rw [cell_of_row _ _ _ _ _ _ G5.out]; rfl
        have f11 : u7.frozen? ⟨b5, 11, none⟩ = false := frozen_of_row _ _ _ _ _ G5.out
        go_wp2_with fail
        refine (Ft.out _ HB.out).mono ?_
        rintro e w' ⟨rfl, hq⟩
        subst w'
        go_upto_region 11 with fail
        have g5 := heap_setCell_same u7 b5 11 _ _ (.bool (decide (xt > 0))) G5.out
        simp only [List.setIfInBounds_toArray, List.set_cons_succ, List.set_cons_zero] at g5
        have g4 := (Below.heap_setCell u7 ⟨b5, 11, none⟩ (.bool (decide (xt > 0))) w.heap.size (by simp; omega)).trans G4.out
        have hb := Owned.below_write HB.out (g := b5) (i := 11) (by omega) (.bool (decide (xt > 0)))
        clear c11 f11 G4 G5 HB
        generalize World.setCell u7 ⟨b5, 11, none⟩ (.bool (decide (xt > 0))) = u8 at g4 g5 hb ⊢
        have G4 := Lib.hid g4
        have G5 := Lib.hid g5
        have HB := Lib.hid hb
        clear g4 g5 hb
        have c12 : u8.cell? ⟨b5, 12, none⟩ = some (.bool false) := by rw [cell_of_row _ _ _ _ _ _ G5.out]; rfl
        have f12 : u8.frozen? ⟨b5, 12, none⟩ = false := frozen_of_row _ _ _ _ _ G5.out
        go_wp2_with fail
        refine (Fe.out _ HB.out).mono ?_
        rintro e w' ⟨rfl, hq⟩
        subst w'
        go_upto_region 12 with fail
        have g5 := heap_setCell_same u8 b5 12 _ _ (.bool (decide (xe = 1))) G5.out
        simp only [List.setIfInBounds_toArray, List.set_cons_succ, List.set_cons_zero] at g5
        have g4 := (Below.heap_setCell u8 ⟨b5, 12, none⟩ (.bool (decide (xe = 1))) w.heap.size (by simp; omega)).trans G4.out
        have hb := Owned.below_write HB.out (g := b5) (i := 12) (by omega) (.bool (decide (xe = 1)))
        clear c12 f12 G4 G5 HB
        generalize World.setCell u8 ⟨b5, 12, none⟩ (.bool (decide (xe = 1))) = u9 at g4 g5 hb ⊢
        have G4 := Lib.hid g4
        have G5 := Lib.hid g5
        have HB := Lib.hid hb
        clear g4 g5 hb
        have FIN : Hid (R.cells.toArray = #[.bool true, I (1 + x0), I x1, I (1 + x0 + x5), I (1 + x0 + x5 + x6), I (1 + x2), I (10 + x3), I x4, I (1 + x8), I (1 + xb / 10), I x9, .bool (decide (xt > 0)), .bool (decide (xe = 1))]) := Lib.hid (by rw [RES.out]; simp only [Ph.cells, if_pos H7.out, RC.out])
        have LV : Hid (Lies u9 ⟨b5, 0, none⟩ #[.bool true, I (1 + x0), I x1, I (1 + x0 + x5), I (1 + x0 + x5 + x6), I (1 + x2), I (10 + x3), I x4, I (1 + x8), I (1 + xb / 10), I x9, .bool (decide (xt > 0)), .bool (decide (xe = 1))].toList) := Lib.hid (Row.lies_of_block G5.out)
        have HG := Lib.hid (below_setRow HB.out (g := w.heap.size) (Nat.le_refl _) #[.bool true, I (1 + x0), I x1, I (1 + x0 + x5), I (1 + x0 + x5 + x6), I (1 + x2), I (10 + x3), I x4, I (1 + x8), I (1 + xb / 10), I x9, .bool (decide (xt > 0)), .bool (decide (xe = 1))])
        have HK := Lib.hid (setRow_heap u9 w.heap.size _ #[.bool true, I (1 + x0), I x1, I (1 + x0 + x5), I (1 + x0 + x5 + x6), I (1 + x2), I (10 + x3), I x4, I (1 + x8), I (1 + xb / 10), I x9, .bool (decide (xt > 0)), .bool (decide (xe = 1))] _ _ G4.out)
        go_wp2_with (first | (refine Row.wpList_load_g 24 _ rfl (by first | rfl | go_simp) ⟨b5, 0, none⟩ rfl #[.bool true, I (1 + x0), I x1, I (1 + x0 + x5), I (1 + x0 + x5 + x6), I (1 + x2), I (10 + x3), I x4, I (1 + x8), I (1 + xb / 10), I x9, .bool (decide (xt > 0)), .bool (decide (xe = 1))].toList _ LV.out Try.underlying24 rfl infoP ?_) | (refine wpList_store_row rfl 24 _ _ rfl w.heap.size #[.bool true, I (1 + x0), I x1, I (1 + x0 + x5), I (1 + x0 + x5 + x6), I (1 + x2), I (10 + x3), I x4, I (1 + x8), I (1 + xb / 10), I x9, .bool (decide (xt > 0)), .bool (decide (xe = 1))] rfl rfl 24 _ G4.out infoP rfl (by simp [Value.oneCell']) ?_))
        generalize u9.setRow w.heap.size #[.bool true, I (1 + x0), I x1, I (1 + x0 + x5), I (1 + x0 + x5 + x6), I (1 + x2), I (10 + x3), I x4, I (1 + x8), I (1 + xb / 10), I x9, .bool (decide (xt > 0)), .bool (decide (xe = 1))] = uz at HG HK ⊢
        go_wp2_with fail
        (try simp only [Exit.inBlock, Exit.then])
        refine bodyPost_ret (v := .agg #[.bool true, I (1 + x0), I x1, I (1 + x0 + x5), I (1 + x0 + x5 + x6), I (1 + x2), I (10 + x3), I x4, I (1 + x8), I (1 + xb / 10), I x9, .bool (decide (xt > 0)), .bool (decide (xe = 1))]) ?_ rfl ⟨by rw [FIN.out], HG.out⟩
        exact results_cell_row rfl _ _ w.heap.size 24 _ (0, 0) _ rfl HK.out Try.underlying24 rfl infoP
      · have e3 : (x9 == 3) = false := by simpa using h3
        clear h3 h9
        go_upto_region 10 with fail
        clear c8 c10 f10 e3 q8
        have c11 : u7.cell? ⟨b5, 11, none⟩ = some (.bool false) := by rw [cell_of_row _ _ _ _ _ _ G5.out]; rfl
        have f11 : u7.frozen? ⟨b5, 11, none⟩ = false := frozen_of_row _ _ _ _ _ G5.out
        go_wp2_with fail
        refine (Ft.out _ HB.out).mono ?_
        rintro e w' ⟨rfl, hq⟩
        subst w'
        go_upto_region 11 with fail
        have g5 := heap_setCell_same u7 b5 11 _ _ (.bool (decide (xt > 0))) G5.out
        simp only [List.setIfInBounds_toArray, List.set_cons_succ, List.set_cons_zero] at g5
        have g4 := (Below.heap_setCell u7 ⟨b5, 11, none⟩ (.bool (decide (xt > 0))) w.heap.size (by simp; omega)).trans G4.out
        have hb := Owned.below_write HB.out (g := b5) (i := 11) (by omega) (.bool (decide (xt > 0)))
        clear c11 f11 G4 G5 HB
        generalize World.setCell u7 ⟨b5, 11, none⟩ (.bool (decide (xt > 0))) = u8 at g4 g5 hb ⊢
        have G4 := Lib.hid g4
        have G5 := Lib.hid g5
        have HB := Lib.hid hb
        clear g4 g5 hb
        have c12 : u8.cell? ⟨b5, 12, none⟩ = some (.bool false) := by rw [cell_of_row _ _ _ _ _ _ G5.out]; rfl
        have f12 : u8.frozen? ⟨b5, 12, none⟩ = false := frozen_of_row _ _ _ _ _ G5.out
        go_wp2_with fail
        refine (Fe.out _ HB.out).mono ?_
        rintro e w' ⟨rfl, hq⟩
        subst w'
        go_upto_region 12 with fail
        have g5 := heap_setCell_same u8 b5 12 _ _ (.bool (decide (xe = 1))) G5.out
        simp only [List.setIfInBounds_toArray, List.set_cons_succ, List.set_cons_zero] at g5
        have g4 := (Below.heap_setCell u8 ⟨b5, 12, none⟩ (.bool (decide (xe = 1))) w.heap.size (by simp; omega)).trans G4.out
        have hb := Owned.below_write HB.out (g := b5) (i := 12) (by omega) (.bool (decide (xe = 1)))
        clear c12 f12 G4 G5 HB
        generalize World.setCell u8 ⟨b5, 12, none⟩ (.bool (decide (xe = 1))) = u9 at g4 g5 hb ⊢
        have G4 := Lib.hid g4
        have G5 := Lib.hid g5
        have HB := Lib.hid hb
        clear g4 g5 hb
        have FIN : Hid (R.cells.toArray = #[.bool true, I (1 + x0), I x1, I (1 + x0 + x5), I (1 + x0 + x5 + x6), I (1 + x2), I (10 + x3), I x4, I (1 + x8), I (1 + xb / 10), I x9, .bool (decide (xt > 0)), .bool (decide (xe = 1))]) := Lib.hid (by rw [RES.out]; simp only [Ph.cells, if_pos H7.out, RC.out])
        have LV : Hid (Lies u9 ⟨b5, 0, none⟩ #[.bool true, I (1 + x0), I x1, I (1 + x0 + x5), I (1 + x0 + x5 + x6), I (1 + x2), I (10 + x3), I x4, I (1 + x8), I (1 + xb / 10), I x9, .bool (decide (xt > 0)), .bool (decide (xe = 1))].toList) := Lib.hid (Row.lies_of_block G5.out)
        have HG := Lib.hid (below_setRow HB.out (g := w.heap.size) (Nat.le_refl _) #[.bool true, I (1 + x0), I x1, I (1 + x0 + x5), I (1 + x0 + x5 + x6), I (1 + x2), I (10 + x3), I x4, I (1 + x8), I (1 + xb / 10), I x9, .bool (decide (xt > 0)), .bool (decide (xe = 1))])
        have HK := Lib.hid (setRow_heap u9 w.heap.size _ #[.bool true, I (1 + x0), I x1, I (1 + x0 + x5), I (1 + x0 + x5 + x6), I (1 + x2), I (10 + x3), I x4, I (1 + x8), I (1 + xb / 10), I x9, .bool (decide (xt > 0)), .bool (decide (xe = 1))] _ _ G4.out)
        go_wp2_with (first | (refine Row.wpList_load_g 24 _ rfl (by first | rfl | go_simp) ⟨b5, 0, none⟩ rfl #[.bool true, I (1 + x0), I x1, I (1 + x0 + x5), I (1 + x0 + x5 + x6), I (1 + x2), I (10 + x3), I x4, I (1 + x8), I (1 + xb / 10), I x9, .bool (decide (xt > 0)), .bool (decide (xe = 1))].toList _ LV.out Try.underlying24 rfl infoP ?_) | (refine wpList_store_row rfl 24 _ _ rfl w.heap.size #[.bool true, I (1 + x0), I x1, I (1 + x0 + x5), I (1 + x0 + x5 + x6), I (1 + x2), I (10 + x3), I x4, I (1 + x8), I (1 + xb / 10), I x9, .bool (decide (xt > 0)), .bool (decide (xe = 1))] rfl rfl 24 _ G4.out infoP rfl (by simp [Value.oneCell']) ?_))
        generalize u9.setRow w.heap.size #[.bool true, I (1 + x0), I x1, I (1 + x0 + x5), I (1 + x0 + x5 + x6), I (1 + x2), I (10 + x3), I x4, I (1 + x8), I (1 + xb / 10), I x9, .bool (decide (xt > 0)), .bool (decide (xe = 1))] = uz at HG HK ⊢
        go_wp2_with fail
        (try simp only [Exit.inBlock, Exit.then])
        refine bodyPost_ret (v := .agg #[.bool true, I (1 + x0), I x1, I (1 + x0 + x5), I (1 + x0 + x5 + x6), I (1 + x2), I (10 + x3), I x4, I (1 + x8), I (1 + xb / 10), I x9, .bool (decide (xt > 0)), .bool (decide (xe = 1))]) ?_ rfl ⟨by rw [FIN.out], HG.out⟩
        exact results_cell_row rfl _ _ w.heap.size 24 _ (0, 0) _ rfl HK.out Try.underlying24 rfl infoP
  · have H7 := Lib.hid h7
    have e7 : (x7 == 1) = false := by simpa using h7
    clear h7
    go_upto_region 7 with fail
    have c10 : u4.cell? ⟨b5, 10, none⟩ = some (I 0) := by rw [cell_of_row _ _ _ _ _ _ G5.out]; rfl
    have f10 : u4.frozen? ⟨b5, 10, none⟩ = false := frozen_of_row _ _ _ _ _ G5.out
    go_wp2_with fail
    refine (F9.out _ HB.out).mono ?_
    rintro e w' ⟨rfl, hq⟩
    subst w'
    go_upto_region 8 with fail
    have g5 := heap_setCell_same u4 b5 10 _ _ (I x9) G5.out
    simp only [List.setIfInBounds_toArray, List.set_cons_succ, List.set_cons_zero] at g5
    have g4 := (Below.heap_setCell u4 ⟨b5, 10, none⟩ (I x9) w.heap.size (by simp; omega)).trans G4.out
    have hb := Owned.below_write HB.out (g := b5) (i := 10) (by omega) (I x9)
    clear c10 f10 G4 G5 HB
    generalize World.setCell u4 ⟨b5, 10, none⟩ (I x9) = u5 at g4 g5 hb ⊢
    have G4 := Lib.hid g4
    have G5 := Lib.hid g5
    have HB := Lib.hid hb
    clear g4 g5 hb
    have c8 : u5.cell? ⟨b5, 8, none⟩ = some (I 0) := by rw [cell_of_row _ _ _ _ _ _ G5.out]; rfl
    have c10 : u5.cell? ⟨b5, 10, none⟩ = some (I x9) := by rw [cell_of_row _ _ _ _ _ _ G5.out]; rfl
    have f10 : u5.frozen? ⟨b5, 10, none⟩ = false := frozen_of_row _ _ _ _ _ G5.out
    by_cases h9 : x9 > 3
    · have RC : Hid (recall x9 (0) = 0) := Lib.hid (by unfold recall; rw [if_pos (by omega)])
      have H9 := Lib.hid h9
      have q9 : ¬ (x9 ≤ 3) := by omega
      go_upto_region 10 with fail
      have g5 := heap_setCell_same u5 b5 10 _ _ (I 0) G5.out
      simp only [List.setIfInBounds_toArray, List.set_cons_succ, List.set_cons_zero] at g5
      have g4 := (Below.heap_setCell u5 ⟨b5, 10, none⟩ (I 0) w.heap.size (by simp; omega)).trans G4.out
      have hb := Owned.below_write HB.out (g := b5) (i := 10) (by omega) (I 0)
      clear c8 c10 f10 G4 G5 HB
      generalize World.setCell u5 ⟨b5, 10, none⟩ (I 0) = u6 at g4 g5 hb ⊢
      have G4 := Lib.hid g4
      have G5 := Lib.hid g5
      have HB := Lib.hid hb
      clear g4 g5 hb
      have c11 : u6.cell? ⟨b5, 11, none⟩ = some (.bool false) := by rw [cell_of_row _ _ _ _ _ _ G5.out]; rfl
      have f11 : u6.frozen? ⟨b5, 11, none⟩ = false := frozen_of_row _ _ _ _ _ G5.out
      go_wp2_with fail
      refine (Ft.out _ HB.out).mono ?_
      rintro e w' ⟨rfl, hq⟩
      subst w'
      go_upto_region 11 with fail
      have g5 := heap_setCell_same u6 b5 11 _ _ (.bool (decide (xt > 0))) G5.out
      simp only [List.setIfInBounds_toArray, List.set_cons_succ, List.set_cons_zero] at g5
      have g4 := (Below.heap_setCell u6 ⟨b5, 11, none⟩ (.bool (decide (xt > 0))) w.heap.size (by simp; omega)).trans G4.out
      have hb := Owned.below_write HB.out (g := b5) (i := 11) (by omega) (.bool (decide (xt > 0)))
      clear c11 f11 G4 G5 HB
      generalize World.setCell u6 ⟨b5, 11, none⟩ (.bool (decide (xt > 0))) = u7 at g4 g5 hb ⊢
      have G4 := Lib.hid g4
      have G5 := Lib.hid g5
      have HB := Lib.hid hb
      clear g4 g5 hb
      have c12 : u7.cell? ⟨b5, 12, none⟩ = some (.bool false) := by rw [cell_of_row _ _ _ _ _ _ G5.out]; rfl
      have f12 : u7.frozen? ⟨b5, 12, none⟩ = false := frozen_of_row _ _ _ _ _ G5.out
      go_wp2_with fail
      refine (Fe.out _ HB.out).mono ?_
      rintro e w' ⟨rfl, hq⟩
      subst w'
      go_upto_region 12 with fail
      have g5 := heap_setCell_same u7 b5 12 _ _ (.bool (decide (xe = 1))) G5.out
      simp only [List.setIfInBounds_toArray, List.set_cons_succ, List.set_cons_zero] at g5
      have g4 := (Below.heap_setCell u7 ⟨b5, 12, none⟩ (.bool (decide (xe = 1))) w.heap.size (by simp; omega)).trans G4.out
      have hb := Owned.below_write HB.out (g := b5) (i := 12) (by omega) (.bool (decide (xe = 1)))
      clear c12 f12 G4 G5 HB
      generalize World.setCell u7 ⟨b5, 12, none⟩ (.bool (decide (xe = 1))) = u8 at g4 g5 hb ⊢
      have G4 := Lib.hid g4
      have G5 := Lib.hid g5
      have HB := Lib.hid hb
      clear g4 g5 hb
      have FIN : Hid (R.cells.toArray = #[.bool true, I (1 + x0), I x1, I (1 + x0 + x5), I (1 + x0 + x5 + x6), I (1 + x2), I (10 + x3), I x4, I 0, I 0, I 0, .bool (decide (xt > 0)), .bool (decide (xe = 1))]) := Lib.hid (by rw [RES.out]; simp only [Ph.cells, if_neg H7.out, RC.out])
      have LV : Hid (Lies u8 ⟨b5, 0, none⟩ #[.bool true, I (1 + x0), I x1, I (1 + x0 + x5), I (1 + x0 + x5 + x6), I (1 + x2), I (10 + x3), I x4, I 0, I 0, I 0, .bool (decide (xt > 0)), .bool (decide (xe = 1))].toList) := Lib.hid (Row.lies_of_block G5.out)
      have HG := Lib.hid (below_setRow HB.out (g := w.heap.size) (Nat.le_refl _) #[.bool true, I (1 + x0), I x1, I (1 + x0 + x5), I (1 + x0 + x5 + x6), I (1 + x2), I (10 + x3), I x4, I 0, I 0, I 0, .bool (decide (xt > 0)), .bool (decide (xe = 1))])
      have HK := Lib.hid (setRow_heap u8 w.heap.size _ #[.bool true, I (1 + x0), I x1, I (1 + x0 + x5), I (1 + x0 + x5 + x6), I (1 + x2), I (10 + x3), I x4, I 0, I 0, I 0, .bool (decide (xt > 0)), .bool (decide (xe = 1))] _ _ G4.out)
      go_wp2_with (first | (refine Row.wpList_load_g 24 _ rfl (by first | rfl | go_simp) ⟨b5, 0, none⟩ rfl #[.bool true, I (1 + x0), I x1, I (1 + x0 + x5), I (1 + x0 + x5 + x6), I (1 + x2), I (10 + x3), I x4, I 0, I 0, I 0, .bool (decide (xt > 0)), .bool (decide (xe = 1))].toList _ LV.out Try.underlying24 rfl infoP ?_) | (refine wpList_store_row rfl 24 _ _ rfl w.heap.size #[.bool true, I (1 + x0), I x1, I (1 + x0 + x5), I (1 + x0 + x5 + x6), I (1 + x2), I (10 + x3), I x4, I 0, I 0, I 0, .bool (decide (xt > 0)), .bool (decide (xe = 1))] rfl rfl 24 _ G4.out infoP rfl (by simp [Value.oneCell']) ?_))
      generalize u8.setRow w.heap.size #[.bool true, I (1 + x0), I x1, I (1 + x0 + x5), I (1 + x0 + x5 + x6), I (1 + x2), I (10 + x3), I x4, I 0, I 0, I 0, .bool (decide (xt > 0)), .bool (decide (xe = 1))] = uz at HG HK ⊢
      go_wp2_with fail
      (try simp only [Exit.inBlock, Exit.then])
      refine bodyPost_ret (v := .agg #[.bool true, I (1 + x0), I x1, I (1 + x0 + x5), I (1 + x0 + x5 + x6), I (1 + x2), I (10 + x3), I x4, I 0, I 0, I 0, .bool (decide (xt > 0)), .bool (decide (xe = 1))]) ?_ rfl ⟨by rw [FIN.out], HG.out⟩
      exact results_cell_row rfl _ _ w.heap.size 24 _ (0, 0) _ rfl HK.out Try.underlying24 rfl infoP
    · have H9 := Lib.hid h9
      have q9 : x9 ≤ 3 := by omega
      by_cases h3 : x9 = 3
      · have RC : Hid (recall x9 (0) = 0) := Lib.hid (by unfold recall; rw [if_pos (by omega)])
        have H3 := Lib.hid h3
        have e3 : (x9 == 3) = true := by simpa using h3
        clear h3 h9
        go_upto_region 10 with fail
        have g5 := heap_setCell_same u5 b5 10 _ _ (I 0) G5.out
        simp only [List.setIfInBounds_toArray, List.set_cons_succ, List.set_cons_zero] at g5
        have g4 := (Below.heap_setCell u5 ⟨b5, 10, none⟩ (I 0) w.heap.size (by simp; omega)).trans G4.out
        have hb := Owned.below_write HB.out (g := b5) (i := 10) (by omega) (I 0)
        clear c8 c10 f10 G4 G5 HB
        generalize World.setCell u5 ⟨b5, 10, none⟩ (I 0) = u6 at g4 g5 hb ⊢
        have G4 := Lib.hid g4
        have G5 := Lib.hid g5
        have HB := Lib.hid hb
        clear g4 g5 hb
        clear e3
        have c11 : u6.cell? ⟨b5, 11, none⟩ = some (.bool false) := by rw [cell_of_row _ _ _ _ _ _ G5.out]; rfl
        have f11 : u6.frozen? ⟨b5, 11, none⟩ = false := frozen_of_row _ _ _ _ _ G5.out
        go_wp2_with fail
        refine (Ft.out _ HB.out).mono ?_
        rintro e w' ⟨rfl, hq⟩
        subst w'
        go_upto_region 11 with fail
        have g5 := heap_setCell_same u6 b5 11 _ _ (.bool (decide (xt > 0))) G5.out
        simp only [List.setIfInBounds_toArray, List.set_cons_succ, List.set_cons_zero] at g5
        have g4 := (Below.heap_setCell u6 ⟨b5, 11, none⟩ (.bool (decide (xt > 0))) w.heap.size (by simp; omega)).trans G4.out
        have hb := Owned.below_write HB.out (g := b5) (i := 11) (by omega) (.bool (decide (xt > 0)))
        clear c11 f11 G4 G5 HB
        generalize World.setCell u6 ⟨b5, 11, none⟩ (.bool (decide (xt > 0))) = u7 at g4 g5 hb ⊢
        have G4 := Lib.hid g4
        have G5 := Lib.hid g5
        have HB := Lib.hid hb
        clear g4 g5 hb
        have c12 : u7.cell? ⟨b5, 12, none⟩ = some (.bool false) := by rw [cell_of_row _ _ _ _ _ _ G5.out]; rfl
        have f12 : u7.frozen? ⟨b5, 12, none⟩ = false := frozen_of_row _ _ _ _ _ G5.out
        go_wp2_with fail
        refine (Fe.out _ HB.out).mono ?_
        rintro e w' ⟨rfl, hq⟩
        subst w'
        go_upto_region 12 with fail
        have g5 := heap_setCell_same u7 b5 12 _ _ (.bool (decide (xe = 1))) G5.out
        simp only [List.setIfInBounds_toArray, List.set_cons_succ, List.set_cons_zero] at g5
        have g4 := (Below.heap_setCell u7 ⟨b5, 12, none⟩ (.bool (decide (xe = 1))) w.heap.size (by simp; omega)).trans G4.out
        have hb := Owned.below_write HB.out (g := b5) (i := 12) (by omega) (.bool (decide (xe = 1)))
        clear c12 f12 G4 G5 HB
        generalize World.setCell u7 ⟨b5, 12, none⟩ (.bool (decide (xe = 1))) = u8 at g4 g5 hb ⊢
        have G4 := Lib.hid g4
        have G5 := Lib.hid g5
        have HB := Lib.hid hb
        clear g4 g5 hb
        have FIN : Hid (R.cells.toArray = #[.bool true, I (1 + x0), I x1, I (1 + x0 + x5), I (1 + x0 + x5 + x6), I (1 + x2), I (10 + x3), I x4, I 0, I 0, I 0, .bool (decide (xt > 0)), .bool (decide (xe = 1))]) := Lib.hid (by rw [RES.out]; simp only [Ph.cells, if_neg H7.out, RC.out])
        have LV : Hid (Lies u8 ⟨b5, 0, none⟩ #[.bool true, I (1 + x0), I x1, I (1 + x0 + x5), I (1 + x0 + x5 + x6), I (1 + x2), I (10 + x3), I x4, I 0, I 0, I 0, .bool (decide (xt > 0)), .bool (decide (xe = 1))].toList) := Lib.hid (Row.lies_of_block G5.out)
        have HG := Lib.hid (below_setRow HB.out (g := w.heap.size) (Nat.le_refl _) #[.bool true, I (1 + x0), I x1, I (1 + x0 + x5), I (1 + x0 + x5 + x6), I (1 + x2), I (10 + x3), I x4, I 0, I 0, I 0, .bool (decide (xt > 0)), .bool (decide (xe = 1))])
        have HK := Lib.hid (setRow_heap u8 w.heap.size _ #[.bool true, I (1 + x0), I x1, I (1 + x0 + x5), I (1 + x0 + x5 + x6), I (1 + x2), I (10 + x3), I x4, I 0, I 0, I 0, .bool (decide (xt > 0)), .bool (decide (xe = 1))] _ _ G4.out)
        go_wp2_with (first | (refine Row.wpList_load_g 24 _ rfl (by first | rfl | go_simp) ⟨b5, 0, none⟩ rfl #[.bool true, I (1 + x0), I x1, I (1 + x0 + x5), I (1 + x0 + x5 + x6), I (1 + x2), I (10 + x3), I x4, I 0, I 0, I 0, .bool (decide (xt > 0)), .bool (decide (xe = 1))].toList _ LV.out Try.underlying24 rfl infoP ?_) | (refine wpList_store_row rfl 24 _ _ rfl w.heap.size #[.bool true, I (1 + x0), I x1, I (1 + x0 + x5), I (1 + x0 + x5 + x6), I (1 + x2), I (10 + x3), I x4, I 0, I 0, I 0, .bool (decide (xt > 0)), .bool (decide (xe = 1))] rfl rfl 24 _ G4.out infoP rfl (by simp [Value.oneCell']) ?_))
        generalize u8.setRow w.heap.size #[.bool true, I (1 + x0), I x1, I (1 + x0 + x5), I (1 + x0 + x5 + x6), I (1 + x2), I (10 + x3), I x4, I 0, I 0, I 0, .bool (decide (xt > 0)), .bool (decide (xe = 1))] = uz at HG HK ⊢
        go_wp2_with fail
        (try simp only [Exit.inBlock, Exit.then])
        refine bodyPost_ret (v := .agg #[.bool true, I (1 + x0), I x1, I (1 + x0 + x5), I (1 + x0 + x5 + x6), I (1 + x2), I (10 + x3), I x4, I 0, I 0, I 0, .bool (decide (xt > 0)), .bool (decide (xe = 1))]) ?_ rfl ⟨by rw [FIN.out], HG.out⟩
        exact results_cell_row rfl _ _ w.heap.size 24 _ (0, 0) _ rfl HK.out Try.underlying24 rfl infoP
      · have RC : Hid (recall x9 (0) = x9) := Lib.hid (by unfold recall; rw [if_neg (by omega)])
        have H3 := Lib.hid h3
        have e3 : (x9 == 3) = false := by simpa using h3
        clear h3 h9
        go_upto_region 10 with fail
        clear c8 c10 f10 e3
        have c11 : u5.cell? ⟨b5, 11, none⟩ = some (.bool false) := by rw [cell_of_row _ _ _ _ _ _ G5.out]; rfl
        have f11 : u5.frozen? ⟨b5, 11, none⟩ = false := frozen_of_row _ _ _ _ _ G5.out
        go_wp2_with fail
        refine (Ft.out _ HB.out).mono ?_
        rintro e w' ⟨rfl, hq⟩
        subst w'
        go_upto_region 11 with fail
        have g5 := heap_setCell_same u5 b5 11 _ _ (.bool (decide (xt > 0))) G5.out
        simp only [List.setIfInBounds_toArray, List.set_cons_succ, List.set_cons_zero] at g5
        have g4 := (Below.heap_setCell u5 ⟨b5, 11, none⟩ (.bool (decide (xt > 0))) w.heap.size (by simp; omega)).trans G4.out
        have hb := Owned.below_write HB.out (g := b5) (i := 11) (by omega) (.bool (decide (xt > 0)))
        clear c11 f11 G4 G5 HB
        generalize World.setCell u5 ⟨b5, 11, none⟩ (.bool (decide (xt > 0))) = u6 at g4 g5 hb ⊢
        have G4 := Lib.hid g4
        have G5 := Lib.hid g5
        have HB := Lib.hid hb
        clear g4 g5 hb
        have c12 : u6.cell? ⟨b5, 12, none⟩ = some (.bool false) := by rw [cell_of_row _ _ _ _ _ _ G5.out]; rfl
        have f12 : u6.frozen? ⟨b5, 12, none⟩ = false := frozen_of_row _ _ _ _ _ G5.out
        go_wp2_with fail
        refine (Fe.out _ HB.out).mono ?_
        rintro e w' ⟨rfl, hq⟩
        subst w'
        go_upto_region 12 with fail
        have g5 := heap_setCell_same u6 b5 12 _ _ (.bool (decide (xe = 1))) G5.out
        simp only [List.setIfInBounds_toArray, List.set_cons_succ, List.set_cons_zero] at g5
        have g4 := (Below.heap_setCell u6 ⟨b5, 12, none⟩ (.bool (decide (xe = 1))) w.heap.size (by simp; omega)).trans G4.out
        have hb := Owned.below_write HB.out (g := b5) (i := 12) (by omega) (.bool (decide (xe = 1)))
        clear c12 f12 G4 G5 HB
        generalize World.setCell u6 ⟨b5, 12, none⟩ (.bool (decide (xe = 1))) = u7 at g4 g5 hb ⊢
        have G4 := Lib.hid g4
        have G5 := Lib.hid g5
        have HB := Lib.hid hb
        clear g4 g5 hb
        have FIN : Hid (R.cells.toArray = #[.bool true, I (1 + x0), I x1, I (1 + x0 + x5), I (1 + x0 + x5 + x6), I (1 + x2), I (10 + x3), I x4, I 0, I 0, I x9, .bool (decide (xt > 0)), .bool (decide (xe = 1))]) := Lib.hid (by rw [RES.out]; simp only [Ph.cells, if_neg H7.out, RC.out])
        have LV : Hid (Lies u7 ⟨b5, 0, none⟩ #[.bool true, I (1 + x0), I x1, I (1 + x0 + x5), I (1 + x0 + x5 + x6), I (1 + x2), I (10 + x3), I x4, I 0, I 0, I x9, .bool (decide (xt > 0)), .bool (decide (xe = 1))].toList) := Lib.hid (Row.lies_of_block G5.out)
        have HG := Lib.hid (below_setRow HB.out (g := w.heap.size) (Nat.le_refl _) #[.bool true, I (1 + x0), I x1, I (1 + x0 + x5), I (1 + x0 + x5 + x6), I (1 + x2), I (10 + x3), I x4, I 0, I 0, I x9, .bool (decide (xt > 0)), .bool (decide (xe = 1))])
        have HK := Lib.hid (setRow_heap u7 w.heap.size _ #[.bool true, I (1 + x0), I x1, I (1 + x0 + x5), I (1 + x0 + x5 + x6), I (1 + x2), I (10 + x3), I x4, I 0, I 0, I x9, .bool (decide (xt > 0)), .bool (decide (xe = 1))] _ _ G4.out)
        go_wp2_with (first | (refine Row.wpList_load_g 24 _ rfl (by first | rfl | go_simp) ⟨b5, 0, none⟩ rfl #[.bool true, I (1 + x0), I x1, I (1 + x0 + x5), I (1 + x0 + x5 + x6), I (1 + x2), I (10 + x3), I x4, I 0, I 0, I x9, .bool (decide (xt > 0)), .bool (decide (xe = 1))].toList _ LV.out Try.underlying24 rfl infoP ?_) | (refine wpList_store_row rfl 24 _ _ rfl w.heap.size #[.bool true, I (1 + x0), I x1, I (1 + x0 + x5), I (1 + x0 + x5 + x6), I (1 + x2), I (10 + x3), I x4, I 0, I 0, I x9, .bool (decide (xt > 0)), .bool (decide (xe = 1))] rfl rfl 24 _ G4.out infoP rfl (by simp [Value.oneCell']) ?_))
        generalize u7.setRow w.heap.size #[.bool true, I (1 + x0), I x1, I (1 + x0 + x5), I (1 + x0 + x5 + x6), I (1 + x2), I (10 + x3), I x4, I 0, I 0, I x9, .bool (decide (xt > 0)), .bool (decide (xe = 1))] = uz at HG HK ⊢
        go_wp2_with fail
        (try simp only [Exit.inBlock, Exit.then])
        refine bodyPost_ret (v := .agg #[.bool true, I (1 + x0), I x1, I (1 + x0 + x5), I (1 + x0 + x5 + x6), I (1 + x2), I (10 + x3), I x4, I 0, I 0, I x9, .bool (decide (xt > 0)), .bool (decide (xe = 1))]) ?_ rfl ⟨by rw [FIN.out], HG.out⟩
        exact results_cell_row rfl _ _ w.heap.size 24 _ (0, 0) _ rfl HK.out Try.underlying24 rfl infoP
end GenP
end Go.Proofs.Ytjgpljnbeolapaa
