/- 10 texts in one file, in build order. -/
import Derived.Test.YtfekngnfjemgeaaRows
import Derived.Test.YtfekngnfjemgeaaPart04
import Derived.Test.YtfekngnfjemgeaaPart02
import Derived.RangeFuncCalls
import Derived.OrdersIn
import Derived.TacticsIn
import Derived.Test.YtfekngnfjemgeaaPart03
import Derived.RangeFuncNested
import Derived.RangeFuncBound
import Derived.RangeFuncLeaves
import Derived.RangeFuncBox
import Derived.Shelf.Abstract
import Derived.Shelf.RegionOpen
import Derived.WalkKit
import Derived.OwnWalkIn
import Derived.TacticsInMore
import Derived.LoopNIn
import Derived.LoopIn
import Derived.Maps.AppendAt
set_option linter.unusedVariables false
set_option linter.unusedSimpArgs false
set_option linter.unusedSectionVars false
/- The contracts of package check's repeats, badGroup and rings. -/
namespace Go.Proofs.Ytfekngnfjemgeaa.ChkG
open Go.ChangeShapes Go.WideShapes Go.ChangeAt Go.RowKit
open Tab PlaceM PlanM OnS ChkM ChkA
open PlanW (wG wK wI idx0 idx1 info2 pwhere_any)
open May (ret_bool infoT St)
set_option linter.unusedVariables false
set_option linter.unusedSimpArgs false
def atOk (T : Tab) (g k i : Nat) (p : Int) : Bool := at0 (where_ T p) == (g, k, i)
theorem at_iff (T : Tab) (g k i : Nat) (p : Int) : atOk T g k i p = (decide (wG (where_ T p) = g) && (decide (wK (where_ T p) = k) && decide (wI (where_ T p) = i))) := by
  unfold atOk at0 wG wK wI
  cases where_ T p with
  | none => rw [Bool.eq_iff_iff]; simp; omega
  | some x => rw [Bool.eq_iff_iff]; simp; omega
theorem rep_row {T : Tab} {g k : Nat} {l : List Int} : repRow T g k l = false ↔ ∀ i, i < l.length → atOk T g k i (l.getD i 0) = true := by
  unfold repRow
  rw [List.any_eq_false]
  constructor
  · intro h i hi
    have := h i (List.mem_range.2 hi)
    unfold atOk
    simpa using this
  · intro h i hi
    have := h i (List.mem_range.1 hi)
    unfold atOk at this
    simpa using this
set_option maxRecDepth 100000 in
set_option maxHeartbeats 4000000 in
theorem repeats_any (T : Tab) (h : Hd) (g : Nat) (w : World) (ht : IsTab w h T) (hg : g < T.groups.length) :
    Calls Try.prog 133 #[.agg (T.cells h).toArray, .int .i64 g] w fun e w' => e = .returned (.bool (repeats T g)) ∧ Below w.heap.size w w' := by
  obtain ⟨⟨ga, gcap⟩, sd, sr, sb⟩ := h
  have hsz1 := (cells_ok ht).size
  have IA : Hid ((Try.prog.info? 32).map (·.size) = some (T.cells ⟨⟨ga, gcap⟩, sd, sr, sb⟩).length) := Lib.hid (by rw [List.size_toArray] at hsz1; rw [hsz1]; exact infoT)
  have WH : Hid (∀ p W, Below w.heap.size w W → Calls Try.prog 137 #[.agg (T.cells ⟨⟨ga, gcap⟩, sd, sr, sb⟩).toArray, .int .i64 p] W fun e w' => e = .returned (.tuple #[I (wG (where_ T p)), I (wK (where_ T p)), I (wI (where_ T p)), .bool (where_ T p).isSome]) ∧ Below W.heap.size W w') := Lib.hid (fun p W hb => pwhere_any T _ p W (ht.below hb))
  have LT0 := Lib.hid (Row.lies_new w (T.cells ⟨⟨ga, gcap⟩, sd, sr, sb⟩).toArray 32)
  have C := Lib.hid (cells_ok ht)
  obtain ⟨gs, hgd, hgr⟩ := ht.groups
  have Hgr := Lib.hid hgr
  have Hgd := Lib.hid hgd
  have S0 := Lib.hid (St.box (cs := (T.cells ⟨⟨ga, gcap⟩, sd, sr, sb⟩).toArray) ht)
  have Hgl := Lib.hid (show T.groups.length = gs.length by rw [← hgd, List.length_map])
  have Kg := hgr.1.len
  unfold maxLen at Kg
  have hlt : g < gs.length := by rw [← Hgl.out]; exact hg
  have hv := List.getElem?_eq_getElem hlt
  generalize gs[g] = u at hv
  obtain ⟨x, hx, hc⟩ := hgr.1.at hv
  have hok := hgr.2 u (List.mem_of_getElem? hv)
  have HD : Hid (rowsAt T g = u.data) := Lib.hid (rows_in (by rw [← hgd, List.getElem?_map, hv]; rfl))
  obtain rfl : ga = some x := hx
  obtain ⟨l0, l1, ⟨a0, cap0⟩, ⟨a1, cap1⟩⟩ := u
  have HC : Hid (Lies w (x.add (g * 2)) [.slice a0 l0.length cap0, .slice a1 l1.length cap1]) := Lib.hid hc
  have HO := Lib.hid hok
  have RS : Hid (repeats T g = (repRow T g 0 l0 || repRow T g 1 l1)) := Lib.hid (by unfold repeats; rw [HD.out]; rfl)
  have AT := Lib.hid (at_iff T)
  have RR : Hid (∀ {k l}, repRow T g k l = false ↔ ∀ i, i < l.length → atOk T g k i (l.getD i 0) = true) := Lib.hid rep_row
  have q104 := S0.out.cell C.out.g
  rw [Hgl.out] at q104
  have Q104 : Hid ((w.alloc (.cells (T.cells ⟨⟨some x, gcap⟩, sd, sr, sb⟩).toArray 32)).cell? ⟨w.heap.size, 104, none⟩ = some (.slice (some x) gs.length gcap)) := Lib.hid q104
  clear ht hgr hgd hv hc hok hsz1 q104 C
  obtain ⟨res, hres⟩ : ∃ r, r = repeats T g := ⟨_, rfl⟩
  rw [← hres]
  have HRES := Lib.hid hres
  clear hres
  generalize hcc : T.cells ⟨⟨some x, gcap⟩, sd, sr, sb⟩ = c at *
  clear hcc
  have hsz : c.toArray.size = 131 := by
    have := S0.out.blk
    have h2 := IA.out
    have h3 : (Try.prog.info? 32).map (·.size) = some 131 := infoT
    rw [h3] at h2
    rw [List.size_toArray]; exact (Option.some.inj h2).symm
  go_enter Try.func133, Try.ntmps133
  go_upto_region 1 with fail
  clear hsz
  generalize w.alloc (.cells c.toArray 32) = w1 at *
  have q104 := Q104.out
  have HC1 := Lib.hid (HC.out.below S0.out.bel)
  have HO1 := Lib.hid (HO.out.below S0.out.bel)
  clear HC HO
  go_wp2_with (refine Row.wpList_load_g 36 _ rfl (by first | rfl | go_simp) (x.add (g * 2)) rfl [.slice a0 l0.length cap0, .slice a1 l1.length cap1] _ HC1.out Try.underlying36 rfl info2 ?_)
  clear q104
  go_loopw [18] (fun a wr => ∃ r : Nat, r ≤ 2 ∧ a = .int .i64 r ∧ (0 < r → repRow T g 0 l0 = false) ∧ (1 < r → repRow T g 1 l1 = false) ∧ Below w1.heap.size w1 wr) (fun a _ => 2 - (intOf a).toNat)
  case atStart => exact ⟨0, by omega, rfl, by omega, by omega, Below.refl _ _⟩
  case round =>
    obtain ⟨r, hr, rfl, h0, h1, hB⟩ := hrel
    have H0 := Lib.hid h0
    have H1 := Lib.hid h1
    have HB := Lib.hid hB
    clear h0 h1 hB
    by_cases hr2 : r < 2
    · obtain ⟨l, a, cap, hidx, hrow, hring, hbad⟩ : ∃ (l : List Int) (a : Option Addr) (cap : Nat), (∀ W, Sem.run Try.prog (Instr.index 36 (.agg #[.slice a0 l0.length cap0, .slice a1 l1.length cap1]) (.int .i64 r)) W = .ok (.slice a l.length cap) W) ∧ IntRow wr ⟨a, cap⟩ l ∧ (repRow T g r l = false → (0 < r + 1 → repRow T g 0 l0 = false) ∧ (1 < r + 1 → repRow T g 1 l1 = false)) ∧ (repRow T g r l = true → repeats T g = true) := by
        have : r = 0 ∨ r = 1 := by omega
        rcases this with rfl | rfl
        · exact ⟨l0, a0, cap0, fun W => idx0 _ _ W, HO1.out.1.below HB.out, fun e => ⟨fun _ => e, by omega⟩, fun e => by rw [RS.out, e]; rfl⟩
        · exact ⟨l1, a1, cap1, fun W => idx1 _ _ W, HO1.out.2.below HB.out, fun e => ⟨fun _ => H0.out (by omega), fun _ => e⟩, fun e => by rw [RS.out, e]; simp⟩
      have HROW := Lib.hid hrow
      have HRING := Lib.hid hring
      have HBAD := Lib.hid hbad
      have K := hrow.len
      unfold maxLen at K
      clear hrow hring hbad
      go_wp2_with fail
      clear hidx
      go_loopw [24] (fun a' wk => ∃ j : Nat, j ≤ l.length ∧ a' = .int .i64 j ∧ (∀ i, i < j → atOk T g r i (l.getD i 0) = true) ∧ Below wr.heap.size wr wk) (fun a' _ => l.length - (intOf a').toNat)
      case atStart => exact ⟨0, by omega, rfl, (fun i h => by omega), Below.refl _ _⟩
      case round =>
        obtain ⟨j, hj, rfl, hall, hB2⟩ := hrel
        rename World => wk
        have HA := Lib.hid hall
        have HB2 := Lib.hid hB2
        clear hall hB2
        by_cases hjl : j < l.length
        · have hv := List.getElem?_eq_getElem hjl
          generalize hz : l[j] = z at hv
          obtain ⟨y, hy, hp⟩ := IntRow.at (HROW.out.below HB2.out) hv
          obtain rfl : a = some y := hy
          have hgd : l.getD j 0 = z := by rw [List.getD_eq_getElem?_getD, hv]; rfl
          have HGD := Lib.hid hgd
          have LT : Hid (Lies wk ⟨w.heap.size, 0, none⟩ c) := Lib.hid ((LT0.out.below HB.out).below HB2.out)
          have BW : Hid (Below w.heap.size w wk) := Lib.hid (S0.out.bel.trans ((HB.out.trans (HB2.out.mono HB.out.size)).mono S0.out.bel.size))
          clear hv hz hgd
          have hAT := AT.out g r j z
          go_wp2_with (refine Row.wpList_load_g 32 _ rfl (by first | rfl | go_simp) ⟨w.heap.size, 0, none⟩ rfl c _ LT.out Try.underlying32 rfl IA.out ?_)
          refine (WH.out z _ BW.out).mono ?_
          rintro e u1 ⟨rfl, hb⟩
          have HB3 : Hid (Below wr.heap.size wr u1) := Lib.hid (HB2.out.trans (hb.mono HB2.out.size))
          have BW1 : Hid (Below w.heap.size w u1) := Lib.hid (BW.out.trans (hb.mono BW.out.size))
          clear hb LT BW HB2
          have HAT := Lib.hid hAT
          clear hAT
          generalize wG (where_ T z) = oG at HAT ⊢
          generalize wK (where_ T z) = oK at HAT ⊢
          generalize wI (where_ T z) = oI at HAT ⊢
          generalize (where_ T z).isSome = oS
          have BAD : Hid (atOk T g r j z = false → true = res) := Lib.hid (fun e => by
            rw [HRES.out]; symm
            refine HBAD.out ?_
            cases hr : repRow T g r l with
            | true => rfl
            | false => rw [RR.out] at hr; have := hr j hjl; rw [HGD.out, e] at this; cases this)
          by_cases e1 : oG = (g : Int)
          · by_cases e2 : oK = (r : Int)
            · by_cases e3 : oI = (j : Int)
              · subst e1 e2 e3
                have OK := Lib.hid (show atOk T g r j z = true by rw [HAT.out]; simp)
                go_wp2
                go_roundw
                case rel => exact ⟨j + 1, by omega, by go_num, (fun i hi => by
                  by_cases e : i = j
                  · subst e; rw [HGD.out]; exact OK.out
                  · exact HA.out i (by omega)), HB3.out⟩
                case measure => simp [intOf]; omega
              · have NO := Lib.hid (BAD.out (by rw [HAT.out]; simp [e3]))
                go_wp2
                go_ret
                exact ⟨ret_bool NO.out, BW1.out⟩
            · have NO := Lib.hid (BAD.out (by rw [HAT.out]; simp [e2]))
              go_wp2
              go_ret
              exact ⟨ret_bool NO.out, BW1.out⟩
          · have NO := Lib.hid (BAD.out (by rw [HAT.out]; simp [e1]))
            go_wp2
            go_ret
            exact ⟨ret_bool NO.out, BW1.out⟩
        · have HE := Lib.hid (HRING.out (by rw [RR.out]; intro i hi; exact HA.out i (by omega)))
          have HB4 := Lib.hid (HB.out.trans (HB2.out.mono HB.out.size))
          go_wp2
          go_roundw
          case rel => exact ⟨r + 1, by omega, by go_num, HE.out.1, HE.out.2, HB4.out⟩
          case measure => simp [intOf]; omega
    · have NO := Lib.hid (show false = res by rw [HRES.out, RS.out, H0.out (by omega), H1.out (by omega)]; rfl)
      have BW1 := Lib.hid (S0.out.bel.trans (HB.out.mono S0.out.bel.size))
      go_wp2
      go_ret
      exact ⟨ret_bool NO.out, BW1.out⟩
end Go.Proofs.Ytfekngnfjemgeaa.ChkG
/- The contracts of package check's badPhase, badBus, badDetector. -/
namespace Go.Proofs.Ytfekngnfjemgeaa.ChkB
open Go.ChangeShapes Go.WideShapes Go.ChangeAt Go.RowKit
open Tab PlaceM PlanM OnS ChkM ChkA
open May (ret_bool infoT infoP infoB infoD infoR St ints_in phases_in)
set_option linter.unusedVariables false
set_option linter.unusedSimpArgs false
theorem phase_cells (u : Ph) (w : World) (b : Nat) (hb : w.heap[b]? = some (.cells u.cells.toArray 24 (0, 0))) :
    w.cell? ⟨b, 1, none⟩ = some (I u.min) ∧ w.cell? ⟨b, 3, none⟩ = some (I u.max) ∧ w.cell? ⟨b, 4, none⟩ = some (I u.top) ∧ w.cell? ⟨b, 5, none⟩ = some (I u.step) ∧ w.cell? ⟨b, 6, none⟩ = some (I u.yellow) ∧ w.cell? ⟨b, 8, none⟩ = some (I u.walk) ∧ w.cell? ⟨b, 9, none⟩ = some (I u.blinks) ∧ w.cell? ⟨b, 10, none⟩ = some (I u.recall) := by
  refine ⟨?_, ?_, ?_, ?_, ?_, ?_, ?_, ?_⟩ <;> (rw [cell_of_row _ _ _ _ _ _ hb]; rfl)
theorem phase_lies {T : Tab} {h : Hd} {w : World} (ht : IsTab w h T) (k : Nat) (hk : k < 8) : Lies (w.alloc (.cells (T.cells h).toArray 32)) ⟨w.heap.size, k * 13, none⟩ (phAt T k).cells := by
  have C := cells_ok ht
  have hb : (w.alloc (.cells (T.cells h).toArray 32)).heap[w.heap.size]? = some (.cells (T.cells h).toArray 32 (0, 0)) := heap_alloc_new w _
  have h8 : k < T.phases.length := by rw [ht.ph]; exact hk
  have e : phAt T k = T.phases[k] := by unfold phAt; rw [Int.toNat_natCast, List.getD_eq_getElem?_getD, List.getElem?_eq_getElem h8]; rfl
  have h1 := C.phase k _ (List.getElem?_eq_getElem h8)
  rw [Nat.mul_comm] at h1
  rw [← e] at h1
  intro j v hv
  rw [Addr.add_mid, cell_of_row _ _ _ _ _ _ hb]
  rw [← h1, List.getElem?_take] at hv
  split at hv
  · rw [List.getElem?_drop, Array.getElem?_toList] at hv
    exact hv
  · cases hv
set_option maxRecDepth 100000 in
set_option maxHeartbeats 4000000 in
theorem badPhase_any (T : Tab) (h : Hd) (k : Nat) (hk : k < 8) (w : World) (ht : IsTab w h T) :
    Calls Try.prog 79 #[.agg (T.cells h).toArray, .int .i64 k] w fun e w' => e = .returned (.bool (phBad (phAt T k))) ∧ Below w.heap.size w w' := by
  have hsz := (cells_ok ht).size
  have A0 : Hid (Below w.heap.size w (w.alloc (.cells (T.cells h).toArray 32))) := Lib.hid ((Below.refl _ _).alloc (Nat.le_refl _) _)
  have A1 := Lib.hid (phase_lies ht k hk)
  have HS : Hid ((w.alloc (.cells (T.cells h).toArray 32)).heap.size = w.heap.size + 1) := Lib.hid (by simp)
  clear ht
  generalize T.cells h = c at *
  obtain ⟨x, hx⟩ : ∃ x, x = phBad (phAt T k) := ⟨_, rfl⟩
  rw [← hx]
  have HR := Lib.hid hx
  clear hx
  generalize phAt T k = ph at *
  go_enter Try.func79, Try.ntmps79
  go_upto_region 1 with fail
  generalize w.alloc (.cells c.toArray 32) = u at A0 A1 HS ⊢
  clear hsz
  go_upto_region 2 with (first | (refine Row.wpList_load_g 24 _ rfl (by first | rfl | go_simp) ⟨w.heap.size, k * 13, none⟩ rfl ph.cells _ A1.out Try.underlying24 rfl infoP ?_) | (refine Row.wpList_store_new rfl 24 _ _ rfl u _ ph.cells.toArray rfl rfl rfl infoP rfl (Ph.one _) ?_))
  have E := Lib.hid (A0.out.trans (((Below.refl u.heap.size u).alloc (Nat.le_refl _) (.cells ph.cells.toArray 24)).mono A0.out.size))
  obtain ⟨q1, q3, q4, q5, q6, q8, q9, q10⟩ := phase_cells ph _ _ (heap_alloc_new u (.cells ph.cells.toArray 24))
  generalize u.alloc (.cells ph.cells.toArray 24) = u2 at *
  generalize u.heap.size = b2 at *
  clear A0 A1 HS
  obtain ⟨on, min, gap, max, top, step, yellow, red, walk, blinks, recall, lock, rest⟩ := ph
  simp only at *
  go_wp2
  all_goals go_ret
  all_goals (refine ⟨ret_bool ?_, E.out⟩)
  all_goals (rw [HR.out]; unfold phBad; dsimp only)
  all_goals (clear HR q1 q3 q4 q5 q6 q8 q9 q10 E)
  all_goals (first | grind | (simp_all <;> omega))
/-- Two blocks laid one behind the other. -/
theorem laid2 (w : World) (o0 o1 : Obj) : ∃ W, ((w.alloc o0).alloc o1) = W ∧ W.heap.size = w.heap.size + 2 ∧ Below w.heap.size w W ∧ Below (w.heap.size + 1) (w.alloc o0) W ∧ W.heap[w.heap.size + 1]? = some o1 := by
  refine ⟨_, rfl, by simp, ((Below.refl _ w).alloc (Nat.le_refl _) _).alloc (by simp) _, ?_, ?_⟩
  · have := (Below.refl (w.alloc o0).heap.size (w.alloc o0)).alloc (Nat.le_refl _) o1
    simpa using this
  · have h1 := heap_alloc_new (w.alloc o0) o1
    rwa [World.size_alloc] at h1
theorem lies_head {w : World} {x : Addr} {v : Value} {l : List Value} (h : Lies w x (v :: l)) : w.cell? x = some v := by
  have := h 0 v rfl
  rwa [Tab.add_zero] at this
set_option maxRecDepth 100000 in
set_option maxHeartbeats 4000000 in
theorem badDetector_any (T : Tab) (h : Hd) (d : Det) (w : World) (ht : IsTab w h T) (h0 : Fl.isn d.on = false) (h1 : Fl.isn d.off = false) (hp : 0 ≤ d.phase ∧ d.phase < 8) :
    Calls Try.prog 84 #[.agg (T.cells h).toArray, .agg d.cells.toArray] w fun e w' => e = .returned (.bool (detBad T d)) ∧ Below w.heap.size w w' := by
  have hsz := (cells_ok ht).size
  have hs1 : (w.alloc (.cells (T.cells h).toArray 32)).heap.size = w.heap.size + 1 := by simp
  obtain ⟨ph, on, off, delay, extend, mOn, mOff⟩ := d
  dsimp only at h0 h1 hp
  obtain ⟨k, rfl⟩ := Int.eq_ofNat_of_zero_le hp.1
  have hk : k < 8 := by omega
  have LP := Lib.hid (lies_head (phase_lies ht k hk))
  obtain ⟨x, hx⟩ : ∃ x, x = detBad T ⟨k, on, off, delay, extend, mOn, mOff⟩ := ⟨_, rfl⟩
  rw [← hx]
  have HR : Hid (x = (gtF off on || !(phAt T k).on)) := Lib.hid hx
  generalize (phAt T k).on = q at LP HR
  have ho := Secs.ord_cases off on h1 h0
  have HO := Lib.hid ho
  clear hx ht h0 h1 hp ho
  generalize T.cells h = c at *
  have hone := Det.one ⟨k, on, off, delay, extend, mOn, mOff⟩
  have hsz2 : (Det.cells ⟨k, on, off, delay, extend, mOn, mOff⟩).toArray.size = 7 := rfl
  generalize hcd : (Det.cells ⟨k, on, off, delay, extend, mOn, mOff⟩).toArray = cd at *
  have HCD := Lib.hid hcd
  clear hcd
  go_enter Try.func84, Try.ntmps84
  go_upto_region 1 with fail
  obtain ⟨u, hu, E1, E0, EB, b1⟩ := laid2 w (.cells c.toArray 32) (.cells cd 39)
  rw [hu]
  have EE := Lib.hid E0
  have c0 : u.cell? ⟨w.heap.size, k * 13, none⟩ = some (.bool q) := (EB.cell (p := ⟨w.heap.size, k * 13, none⟩) (Nat.lt_succ_self _)).trans LP.out
  have q0 : u.cell? ⟨w.heap.size + 1, 0, none⟩ = some (I k) := by rw [cell_of_row _ _ _ _ _ _ b1, ← HCD.out]; rfl
  have q1 : u.cell? ⟨w.heap.size + 1, 1, none⟩ = some (.float .f64 on) := by rw [cell_of_row _ _ _ _ _ _ b1, ← HCD.out]; rfl
  have q2 : u.cell? ⟨w.heap.size + 1, 2, none⟩ = some (.float .f64 off) := by rw [cell_of_row _ _ _ _ _ _ b1, ← HCD.out]; rfl
  clear hu EB LP b1 hs1 hsz hsz2 hone E0 HCD
  rcases HO.out with ⟨a, ho⟩ | ⟨a, ho⟩ | ⟨a, ho⟩
  all_goals
    clear HO
    have HA := Lib.hid a
    clear a
    go_wp2
    go_ret
    have a := HA.out
    refine ⟨ret_bool ?_, EE.out⟩
    rw [HR.out]
    unfold gtF
    first | (rw [decide_eq_true (by omega)]; simp) | (rw [decide_eq_false (by omega)]; simp)
set_option maxRecDepth 100000 in
set_option maxHeartbeats 4000000 in
theorem badBus_any (T : Tab) (h : Hd) (d : Bs) (w : World) (ht : IsTab w h T) :
    Calls Try.prog 90 #[.agg (T.cells h).toArray, .agg d.cells.toArray] w fun e w' => e = .returned (.bool (busBad T d)) ∧ Below w.heap.size w w' := by
  have hsz := (cells_ok ht).size
  have IA : Hid ((Try.prog.info? 32).map (·.size) = some (T.cells h).length) := Lib.hid (by rw [List.size_toArray] at hsz; rw [hsz]; exact infoT)
  obtain ⟨s, lk⟩ := d
  have AO : Hid (∀ W, Below w.heap.size w W → Calls Try.prog 118 #[.agg (T.cells h).toArray, .int .i64 s] W fun e w' => e = .returned (.bool (allOn T s)) ∧ Below W.heap.size W w') := Lib.hid (fun W hb => allOn_any T h s W (ht.below hb))
  obtain ⟨x, hx⟩ : ∃ x, x = busBad T ⟨s, lk⟩ := ⟨_, rfl⟩
  rw [← hx]
  have HR : Hid (x = (s == 0 || (!allOn T s || decide (lk < 1)))) := Lib.hid hx
  generalize allOn T s = q at AO HR
  have A1 := Lib.hid (Row.lies_new w (T.cells h).toArray 32)
  clear hx ht
  have hone := Bs.one ⟨s, lk⟩
  have hsz2 : (Bs.cells ⟨s, lk⟩).toArray.size = 2 := rfl
  generalize hcd : (Bs.cells ⟨s, lk⟩).toArray = cd at *
  have HCD := Lib.hid hcd
  clear hcd
  generalize T.cells h = c at *
  go_enter Try.func90, Try.ntmps90
  go_upto_region 1 with fail
  obtain ⟨u, hu, E1, E0, EB, b1⟩ := laid2 w (.cells c.toArray 32) (.cells cd 43)
  rw [hu]
  have EE := Lib.hid E0
  have LT : Hid (Lies u ⟨w.heap.size, 0, none⟩ c) := Lib.hid (A1.out.below (by simpa using EB))
  have q0 : u.cell? ⟨w.heap.size + 1, 0, none⟩ = some (I s) := by rw [cell_of_row _ _ _ _ _ _ b1, ← HCD.out]; rfl
  have q1 : u.cell? ⟨w.heap.size + 1, 1, none⟩ = some (I lk) := by rw [cell_of_row _ _ _ _ _ _ b1, ← HCD.out]; rfl
  have Q1 := Lib.hid q1
  clear hu EB A1 b1 hsz hsz2 hone E0 HCD
  by_cases hs : s = 0
  · go_wp2
    go_ret
    exact ⟨ret_bool (by rw [HR.out, hs]; rfl), EE.out⟩
  · go_wp2_with (refine Row.wpList_load_g 32 _ rfl (by first | rfl | go_simp) ⟨w.heap.size, 0, none⟩ rfl c _ LT.out Try.underlying32 rfl IA.out ?_)
    refine (AO.out _ EE.out).mono ?_
    rintro e u1 ⟨rfl, hb⟩
    have q1 := (hb.cell (World.block_lt_of_cell? u _ Q1.out)).trans Q1.out
    have EF := Lib.hid (EE.out.trans (hb.mono EE.out.size))
    clear hb q0 LT AO Q1
    cases q with
    | true =>
      go_wp2
      go_ret
      refine ⟨ret_bool ?_, EF.out⟩
      rw [HR.out]; simp [hs]
    | false =>
      go_wp2
      go_ret
      refine ⟨ret_bool ?_, EF.out⟩
      rw [HR.out]; simp
end Go.Proofs.Ytfekngnfjemgeaa.ChkB
/- The contracts of package check's badGroup and rings. -/
namespace Go.Proofs.Ytfekngnfjemgeaa.ChkH
open Go.ChangeShapes Go.WideShapes Go.ChangeAt Go.RowKit
open Tab PlaceM PlanM OnS ChkM ChkA ChkG
open May (ret_bool infoT St)
open Same (below_setRow)
set_option linter.unusedVariables false
set_option linter.unusedSimpArgs false
/-- A Fault as a value: none, or the error at a place. -/
def flt (c : Int) : Option Int → Value
  | none => .agg #[I 0, I 0]
  | some p => .agg #[I c, I p]
theorem infoF : (Try.prog.info? 49).map (·.size) = some 2 := by kernel_rfl
set_option maxRecDepth 100000 in
set_option maxHeartbeats 4000000 in
theorem badGroup_any (T : Tab) (h : Hd) (g : Nat) (w : World) (ht : IsTab w h T) (hg : g < T.groups.length) :
    Calls Try.prog 112 #[.agg (T.cells h).toArray, .int .i64 g] w fun e w' => e = .returned (.bool (groupBad T g)) ∧ Below w.heap.size w w' := by
  have hsz := (cells_ok ht).size
  have IA : Hid ((Try.prog.info? 32).map (·.size) = some (T.cells h).length) := Lib.hid (by rw [List.size_toArray] at hsz; rw [hsz]; exact infoT)
  have ME : Hid (∀ W, Below w.heap.size w W → Calls Try.prog 113 #[.agg (T.cells h).toArray, .int .i64 g] W fun e w' => e = .returned (.int .i64 (membS T g : Nat)) ∧ Below W.heap.size W w') := Lib.hid (fun W hb => PlanC.members_any T h g W (ht.below hb))
  have AO : Hid (∀ s W, Below w.heap.size w W → Calls Try.prog 118 #[.agg (T.cells h).toArray, .int .i64 s] W fun e w' => e = .returned (.bool (allOn T s)) ∧ Below W.heap.size W w') := Lib.hid (fun s W hb => allOn_any T h s W (ht.below hb))
  have RP : Hid (∀ W, Below w.heap.size w W → Calls Try.prog 133 #[.agg (T.cells h).toArray, .int .i64 g] W fun e w' => e = .returned (.bool (repeats T g)) ∧ Below W.heap.size W w') := Lib.hid (fun W hb => repeats_any T h g W (ht.below hb) hg)
  obtain ⟨x, hx⟩ : ∃ x, x = groupBad T g := ⟨_, rfl⟩
  rw [← hx]
  have HR : Hid (x = (membS T g == 0 || (!allOn T (membS T g : Nat) || repeats T g))) := Lib.hid hx
  have A0 : Hid (Below w.heap.size w (w.alloc (.cells (T.cells h).toArray 32))) := Lib.hid ((Below.refl _ _).alloc (Nat.le_refl _) _)
  have A1 := Lib.hid (Row.lies_new w (T.cells h).toArray 32)
  generalize membS T g = m at HR ME
  generalize repeats T g = rp at HR RP
  clear hx ht hg
  generalize T.cells h = c at *
  go_enter Try.func112, Try.ntmps112
  go_upto_region 1 with fail
  generalize w.alloc (.cells c.toArray 32) = u at A0 A1 ⊢
  clear hsz
  go_wp2_with (refine Row.wpList_load_g 32 _ rfl (by first | rfl | go_simp) ⟨w.heap.size, 0, none⟩ rfl c _ A1.out Try.underlying32 rfl IA.out ?_)
  refine (ME.out _ A0.out).mono ?_
  rintro e u1 ⟨rfl, hb⟩
  have B0 : Hid (Below w.heap.size w u1) := Lib.hid (A0.out.trans (hb.mono A0.out.size))
  have B1 := Lib.hid (A1.out.below hb)
  clear hb A0 A1 ME
  by_cases hm : m = 0
  · have HR2 : Hid (true = x) := Lib.hid (by rw [HR.out, hm]; rfl)
    rw [hm, show (((0 : Nat) : Int)) = (0 : Int) from rfl]
    clear hm
    go_wp2
    go_ret
    exact ⟨ret_bool HR2.out, B0.out⟩
  have HM : ((m : Int) == 0) = false := by rw [beq_eq_false_iff_ne]; omega
  have HR2 : Hid (x = (!allOn T (m : Nat) || rp)) := Lib.hid (by rw [HR.out, show (m == 0) = false by rw [beq_eq_false_iff_ne]; exact hm]; rfl)
  have HMi : Hid (¬ ((m : Nat) : Int) = 0) := Lib.hid (by omega)
  clear HR hm
  generalize ((m : Nat) : Int) = mi at HM HMi HR2 ⊢
  have hmi := HMi.out
  have HMb := Lib.hid HM
  have AO2 := Lib.hid (AO.out mi)
  clear AO HM
  generalize allOn T mi = ao at AO2 HR2
  go_wp2_with (refine Row.wpList_load_g 32 _ rfl (by first | rfl | go_simp) ⟨w.heap.size, 0, none⟩ rfl c _ B1.out Try.underlying32 rfl IA.out ?_)
  refine (AO2.out _ B0.out).mono ?_
  rintro e u2 ⟨rfl, hb⟩
  have A0 : Hid (Below w.heap.size w u2) := Lib.hid (B0.out.trans (hb.mono B0.out.size))
  have A1 := Lib.hid (B1.out.below hb)
  clear hb B0 B1 AO2 hmi
  cases ao with
  | false =>
    have HR3 : Hid (true = x) := Lib.hid (by rw [HR2.out]; rfl)
    go_wp2
    go_ret
    exact ⟨ret_bool HR3.out, A0.out⟩
  | true =>
    have HR3 : Hid (rp = x) := Lib.hid (by rw [HR2.out]; rfl)
    go_wp2_with (refine Row.wpList_load_g 32 _ rfl (by first | rfl | go_simp) ⟨w.heap.size, 0, none⟩ rfl c _ A1.out Try.underlying32 rfl IA.out ?_)
    refine (RP.out _ A0.out).mono ?_
    rintro e u3 ⟨rfl, hb⟩
    have B0 : Hid (Below w.heap.size w u3) := Lib.hid (A0.out.trans (hb.mono A0.out.size))
    clear hb A0 A1
    go_wp2
    go_ret
    exact ⟨ret_bool (by rw [HMb.out]; exact HR3.out), B0.out⟩
theorem find_none {f : Nat → Bool} {n : Nat} (h : ∀ j, j < n → f j = false) : (List.range n).find? f = none := range_miss h
theorem placed_lt (T : Tab) : ∀ g, placed T g < 256
  | 0 => by unfold placed; decide
  | g + 1 => Nat.or_lt_two_pow (n := 8) (placed_lt T g) (memb_lt T g)
/-- The Fault's cells. -/
def fltC (c : Int) : Option Int → Array Value
  | none => #[I 0, I 0]
  | some p => #[I c, I p]
theorem flt_agg (c : Int) (o : Option Int) : flt c o = .agg (fltC c o) := by cases o <;> rfl
set_option maxRecDepth 100000 in
set_option maxHeartbeats 4000000 in
theorem rings_any (T : Tab) (h : Hd) (w : World) (ht : IsTab w h T) :
    Calls Try.prog 80 #[.agg (T.cells h).toArray] w fun e w' => e = .returned (flt 8 (ringsC T)) ∧ Below w.heap.size w w' := by
  have hsz := (cells_ok ht).size
  have C := Lib.hid (cells_ok ht)
  have IA : Hid ((Try.prog.info? 32).map (·.size) = some (T.cells h).length) := Lib.hid (by rw [List.size_toArray] at hsz; rw [hsz]; exact infoT)
  have ON : Hid (∀ W, Below w.heap.size w W → Calls Try.prog 111 #[.agg (T.cells h).toArray] W fun e w' => e = .returned (.int .i64 (onS T : Nat)) ∧ Below W.heap.size W w') := Lib.hid (fun W hb => PlanO.pon_any T h W (ht.below hb))
  have ME : Hid (∀ (g : Nat) W, Below w.heap.size w W → Calls Try.prog 113 #[.agg (T.cells h).toArray, .int .i64 g] W fun e w' => e = .returned (.int .i64 (membS T g : Nat)) ∧ Below W.heap.size W w') := Lib.hid (fun g W hb => PlanC.members_any T h g W (ht.below hb))
  have BG : Hid (∀ (g : Nat) W, g < T.groups.length → Below w.heap.size w W → Calls Try.prog 112 #[.agg (T.cells h).toArray, .int .i64 g] W fun e w' => e = .returned (.bool (groupBad T g)) ∧ Below W.heap.size W w') := Lib.hid (fun g W hg hb => badGroup_any T h g W (ht.below hb) hg)
  have A0 : Hid (Below w.heap.size w ((w.alloc (.cells (T.cells h).toArray 32)).alloc (.cells #[.int .i64 0, .int .i64 0] 49))) := Lib.hid (((Below.refl _ _).alloc (Nat.le_refl _) _).alloc (by simp) _)
  have A1 : Hid (Lies ((w.alloc (.cells (T.cells h).toArray 32)).alloc (.cells #[.int .i64 0, .int .i64 0] 49)) ⟨w.heap.size, 0, none⟩ (T.cells h)) := Lib.hid ((Row.lies_new w _ _).below ((Below.refl _ _).alloc (Nat.le_refl _) _))
  have A2 : Hid (((w.alloc (.cells (T.cells h).toArray 32)).alloc (.cells #[.int .i64 0, .int .i64 0] 49)).heap[w.heap.size + 1]? = some (.cells #[.int .i64 0, .int .i64 0] 49 (0, 0))) := Lib.hid (heap_alloc2_new w _ _)
  have q104 := (((Row.lies_new w (T.cells h).toArray 32).below ((Below.refl _ _).alloc (Nat.le_refl _) (.cells #[.int .i64 0, .int .i64 0] 49))) 104 _ ((Array.getElem?_toList ..).trans C.out.g) : ((w.alloc (.cells (T.cells h).toArray 32)).alloc (.cells #[.int .i64 0, .int .i64 0] 49)).cell? ((⟨w.heap.size, 0, none⟩ : Addr).add 104) = _)
  have q104 : ((w.alloc (.cells (T.cells h).toArray 32)).alloc (.cells #[.int .i64 0, .int .i64 0] 49)).cell? ⟨w.heap.size, 104, none⟩ = some (.slice h.g.a T.groups.length h.g.cap) := q104
  have Kg : T.groups.length ≤ maxLen := by
    obtain ⟨gs, hgd, hgr⟩ := ht.groups
    have := hgr.1.len
    rw [← hgd, List.length_map]; omega
  unfold maxLen at Kg
  have RC : Hid (ringsC T = _) := Lib.hid (by unfold ringsC; rfl)
  have LT := Lib.hid (placed_lt T)
  have ML := Lib.hid (memb_lt T)
  obtain ⟨o, ho⟩ : ∃ o, o = ringsC T := ⟨_, rfl⟩
  rw [← ho, flt_agg] 
  rw [← ho] at RC
  clear ho ht C
  generalize hn : T.groups.length = n at *
  have HN := Lib.hid hn
  clear hn
  generalize h.g.cap = gcap at *
  generalize h.g.a = ga at *
  generalize T.cells h = c at *
  go_enter Try.func80, Try.ntmps80
  go_upto_region 1 with fail
  generalize ((w.alloc (.cells c.toArray 32)).alloc (.cells #[.int .i64 0, .int .i64 0] 49)) = u at A0 A1 A2 q104 ⊢
  clear hsz
  by_cases hz : n = 0
  · subst hz
    have RO : Hid (o = some 0) := Lib.hid (by rw [RC.out]; rfl)
    clear RC
    have HW := Lib.hid (below_setRow A0.out (g := w.heap.size + 1) (by omega) #[I 8, I 0])
    have HK := Lib.hid (setRow_heap u (w.heap.size + 1) _ #[I 8, I 0] _ _ A2.out)
    go_wp2_with (first | (refine wpList_store_row rfl 49 _ _ rfl (w.heap.size + 1) #[I 8, I 0] rfl rfl 49 _ A2.out infoF rfl (by simp [Value.oneCell']) ?_))
    generalize u.setRow (w.heap.size + 1) #[I 8, I 0] = uz at HW HK ⊢
    (try go_wp2_with fail)
    (try simp only [Exit.inBlock, Exit.then])
    refine bodyPost_ret (v := .agg #[I 8, I 0]) ?_ rfl ⟨by rw [RO.out]; rfl, HW.out⟩
    exact results_cell_row rfl _ _ (w.heap.size + 1) 49 _ (0, 0) _ rfl HK.out Try.underlying49 rfl infoF
  · have HZ : Hid (¬ n = 0) := Lib.hid hz
    have hzi : ((n : Int) == 0) = false := by rw [beq_eq_false_iff_ne]; omega
    have hzj : ¬ ((n : Int) = 0) := by omega
    rw [if_neg hz] at RC
    clear hz
    go_wp2_with fail
    clear hzi hzj q104
    go_loopw [3, 13] (fun s a wr => ∃ q : Nat, q ≤ n ∧ s = .int .i64 (placed T q : Nat) ∧ a = .int .i64 q ∧ (∀ j, j < q → groupBad T j = false) ∧ Below u.heap.size u wr) (fun _ a _ => n - (intOf a).toNat)
    case atStart => exact ⟨0, by omega, rfl, rfl, (fun j h => by omega), Below.refl _ _⟩
    case round =>
      obtain ⟨q, hq, rfl, rfl, hall, hB⟩ := hrel
      have HA := Lib.hid hall
      have B0 : Hid (Below w.heap.size w wr) := Lib.hid (A0.out.trans (hB.mono A0.out.size))
      have B1 := Lib.hid (A1.out.below hB)
      have B2 : Hid (wr.heap[w.heap.size + 1]? = some (.cells #[.int .i64 0, .int .i64 0] 49 (0, 0))) := Lib.hid ((hB.block _ (Array.getElem?_eq_some_iff.1 A2.out).1).trans A2.out)
      have B3 := Lib.hid hB
      clear hall hB
      by_cases hlt : q < n
      · go_wp2_with (refine Row.wpList_load_g 32 _ rfl (by first | rfl | go_simp) ⟨w.heap.size, 0, none⟩ rfl c _ B1.out Try.underlying32 rfl IA.out ?_)
        refine (BG.out q _ hlt B0.out).mono ?_
        rintro e u1 ⟨rfl, hb⟩
        have C0 : Hid (Below w.heap.size w u1) := Lib.hid (B0.out.trans (hb.mono B0.out.size))
        have C1 := Lib.hid (B1.out.below hb)
        have C2 : Hid (u1.heap[w.heap.size + 1]? = some (.cells #[.int .i64 0, .int .i64 0] 49 (0, 0))) := Lib.hid ((hb.block _ (Array.getElem?_eq_some_iff.1 B2.out).1).trans B2.out)
        have C3 := Lib.hid (B3.out.trans (hb.mono B3.out.size))
        clear hb B0 B1 B2 B3
        cases hgb : groupBad T q with
        | true =>
          have RO : Hid (o = some (q : Int)) := Lib.hid (by rw [RC.out, range_hit hlt hgb HA.out])
          clear hgb
          have HW := Lib.hid (below_setRow C0.out (g := w.heap.size + 1) (by omega) #[I 8, I q])
          have HK := Lib.hid (setRow_heap u1 (w.heap.size + 1) _ #[I 8, I q] _ _ C2.out)
          go_wp2_with (first | (refine wpList_store_row rfl 49 _ _ rfl (w.heap.size + 1) #[I 8, I q] rfl rfl 49 _ C2.out infoF rfl (by simp [Value.oneCell']) ?_))
          generalize u1.setRow (w.heap.size + 1) #[I 8, I q] = uz at HW HK ⊢
          (try go_wp2_with fail)
          (try simp only [Exit.inBlock, Exit.then])
          refine bodyPost_ret (v := .agg #[I 8, I q]) ?_ rfl ⟨by rw [RO.out]; rfl, HW.out⟩
          exact results_cell_row rfl _ _ (w.heap.size + 1) 49 _ (0, 0) _ rfl HK.out Try.underlying49 rfl infoF
        | false =>
          have HG := Lib.hid hgb
          clear hgb
          go_wp2_with (refine Row.wpList_load_g 32 _ rfl (by first | rfl | go_simp) ⟨w.heap.size, 0, none⟩ rfl c _ C1.out Try.underlying32 rfl IA.out ?_)
          refine (ME.out q _ C0.out).mono ?_
          rintro e u2 ⟨rfl, hb⟩
          have D3 := Lib.hid (C3.out.trans (hb.mono C3.out.size))
          have OR : Hid (bits .or .i64 (placed T q : Nat) (membS T q : Nat) = (placed T (q + 1) : Nat)) := Lib.hid (RefS.or_small _ _ (LT.out _) (ML.out _))
          clear hb C0 C1 C2 C3
          generalize membS T q = mq at OR ⊢
          generalize placed T q = pq at OR ⊢
          go_wp2
          go_roundw
          case rel => exact ⟨q + 1, by omega, by rw [OR.out], by go_num, (fun j hj => by
            by_cases e : j = q
            · subst e; exact HG.out
            · exact HA.out j (by omega)), D3.out⟩
          case measure => simp [intOf]; omega
      · have hqn : q = n := by omega
        have RC2 : Hid (o = if bits .andNot .i64 (onS T : Nat) (placed T n : Nat) = 0 then none else some 0) := Lib.hid (by rw [RC.out, find_none (fun j hj => HA.out j (by omega))])
        rw [hqn]
        clear RC hlt hqn hq HA
        go_wp2_with (refine Row.wpList_load_g 32 _ rfl (by first | rfl | go_simp) ⟨w.heap.size, 0, none⟩ rfl c _ B1.out Try.underlying32 rfl IA.out ?_)
        refine (ON.out _ B0.out).mono ?_
        rintro e u1 ⟨rfl, hb⟩
        have C0 : Hid (Below w.heap.size w u1) := Lib.hid (B0.out.trans (hb.mono B0.out.size))
        have C2 : Hid (u1.heap[w.heap.size + 1]? = some (.cells #[.int .i64 0, .int .i64 0] 49 (0, 0))) := Lib.hid ((hb.block _ (Array.getElem?_eq_some_iff.1 B2.out).1).trans B2.out)
        clear hb B0 B1 B2 B3
        generalize placed T n = pq at RC2 ⊢
        generalize onS T = m at RC2 ⊢
        by_cases hz : bits .andNot .i64 (m : Int) (pq : Int) = 0
        · have RO : Hid (o = none) := Lib.hid (by rw [RC2.out, if_pos hz])
          have HW := Lib.hid (below_setRow C0.out (g := w.heap.size + 1) (by omega) #[I 0, I 0])
          have HK := Lib.hid (setRow_heap u1 (w.heap.size + 1) _ #[I 0, I 0] _ _ C2.out)
          go_wp2_with (first | (refine wpList_store_row rfl 49 _ _ rfl (w.heap.size + 1) #[I 0, I 0] rfl rfl 49 _ C2.out infoF rfl (by simp [Value.oneCell']) ?_))
          generalize u1.setRow (w.heap.size + 1) #[I 0, I 0] = uz at HW HK ⊢
          (try go_wp2_with fail)
          (try simp only [Exit.inBlock, Exit.then])
          refine bodyPost_ret (v := .agg #[I 0, I 0]) ?_ rfl ⟨by rw [RO.out]; rfl, HW.out⟩
          exact results_cell_row rfl _ _ (w.heap.size + 1) 49 _ (0, 0) _ rfl HK.out Try.underlying49 rfl infoF
        · have RO : Hid (o = some 0) := Lib.hid (by rw [RC2.out, if_neg hz])
          have HW := Lib.hid (below_setRow C0.out (g := w.heap.size + 1) (by omega) #[I 8, I 0])
          have HK := Lib.hid (setRow_heap u1 (w.heap.size + 1) _ #[I 8, I 0] _ _ C2.out)
          go_wp2_with (first | (refine wpList_store_row rfl 49 _ _ rfl (w.heap.size + 1) #[I 8, I 0] rfl rfl 49 _ C2.out infoF rfl (by simp [Value.oneCell']) ?_))
          generalize u1.setRow (w.heap.size + 1) #[I 8, I 0] = uz at HW HK ⊢
          (try go_wp2_with fail)
          (try simp only [Exit.inBlock, Exit.then])
          refine bodyPost_ret (v := .agg #[I 8, I 0]) ?_ rfl ⟨by rw [RO.out]; rfl, HW.out⟩
          exact results_cell_row rfl _ _ (w.heap.size + 1) 49 _ (0, 0) _ rfl HK.out Try.underlying49 rfl infoF
end Go.Proofs.Ytfekngnfjemgeaa.ChkH
/- A region that draws and holds calls that write, walked by phases (Ph), behind a structure, so that nothing looks into what is still to come; a run of skipped operations in one step. No program in it. -/
namespace Go.Proofs.Ytfekngnfjemgeaa.Pw
open Go Go.RowKit
open Tab
structure W (P : Program) (ops : Array Oper) (D : Nat → World → Prop) (cs : List Nat) (Q : Act → Prop) (k : Nat) (l : List Oper) (a : Act) : Prop where
  out : Ph.wpPh P ops D cs Q k l a
section
variable {P : Program} {D : Nat → World → Prop} {ns : List Nat} {ops : Array Oper} {Q : Act → Prop} {k : Nat} {a : Act} {o : Oper} {rest : List Oper}
theorem region {id : Nat} {Q : Exit → Act → World → Prop} {a : Act} {w : World} {l : List Oper} (D : Nat → World → Prop) (cs : List Nat) (hm : P.follows .mixedOrders = true) (hB : Ph.okB .any l.toArray cs = true) (hD : D 0 w.drew)
    (h : W P l.toArray D cs (fun a' => ∀ w', D cs.length w' → Q .normal a' w') 0 l a) : (Code.region id l.toArray true).wp P Q a w := Ph.wp_region_ph D cs hm hB hD h.out
theorem nil (h : Q a) : W P ops D ns Q k [] a := ⟨h⟩
theorem calm (hk : ns.idxOf? k = none) (h : ∀ K : Act → Prop, (∀ a, W P ops D ns Q (k + 1) rest a → K a) → if Region.wanted o (yielded ops a.tmps) then Ph.Oper.calm P o a D K else K (a.put o.dst undef)) : W P ops D ns Q k (o :: rest) a :=
  ⟨Ph.wpPh_calm hk fun K hK => h K fun a ha => hK a ha.out⟩
theorem link {p : Nat} (hk : ns.idxOf? k = some p) (h : ∀ K : Act → Prop, (∀ a, W P ops D ns Q (k + 1) rest a → K a) → Region.wanted o (yielded ops a.tmps) = true ∧ Ph.Oper.link P o a (D p) (D (p + 1)) K) : W P ops D ns Q k (o :: rest) a :=
  ⟨Ph.wpPh_link hk fun K hK => h K fun a ha => hK a ha.out⟩
/-- Operations whose guard says no. -/
def skipsB (ns : List Nat) (ops : Array Oper) : Nat → Nat → List Oper → Act → Bool
  | 0, _, _, _ => true
  | _ + 1, _, [], _ => false
  | n + 1, k, o :: l, a => (ns.idxOf? k).isNone && !(Region.wanted o (yielded ops a.tmps)) && skipsB ns ops n (k + 1) l (a.put o.dst undef)
def undefs : List Oper → Act → Act
  | [], a => a
  | o :: l, a => undefs l (a.put o.dst undef)
theorem skips : ∀ (n : Nat) {k : Nat} {l : List Oper} {a : Act}, skipsB ns ops n k l a = true → W P ops D ns Q (k + n) (l.drop n) (undefs (l.take n) a) → W P ops D ns Q k l a
  | 0, _, _, _, _, h => h
  | n + 1, _, [], _, h, _ => by simp [skipsB] at h
  | n + 1, k, o :: l, a, h, hr => by
    simp only [skipsB, Bool.and_eq_true, Option.isNone_iff_eq_none, Bool.not_eq_true'] at h
    refine calm h.1.1 fun K hK => ?_
    rw [if_neg (by rw [h.1.2]; simp)]
    refine hK _ (skips n h.2 ?_)
    rw [show k + 1 + n = k + (n + 1) by omega]
    exact hr
theorem load (hk : ns.idxOf? k = none) (hw : Region.wanted o (yielded ops a.tmps) = true)
    (ty : TypeId) (x : Operand) (ho : o.op = .load ty x) (y : Addr) (hx : a.eval x = .pointer (some y)) (cs : List Value) (d : TypeDesc) (hc : ∀ p : Ph.S D, Lies p.world y cs) (hu : P.underlying ty = some d) (hd : d.isRow = true) (hi : (P.info? ty).map (·.size) = some cs.length)
    (h : W P ops D ns Q (k + 1) rest (a.put o.dst (.agg cs.toArray))) : W P ops D ns Q k (o :: rest) a := ⟨Row.wpPh_load hk hw ty x ho y hx cs d hc hu hd hi h.out⟩
theorem eql (t : TypeId) (x y : Operand) (t2 : TypeId) (ho : o.op = .binOp .eql t x y t2) (hk : ns.idxOf? k = none) (hw : Region.wanted o (yielded ops a.tmps) = true)
    (xs ys : Array Value) (hx : a.eval x = .agg xs) (hy : a.eval y = .agg ys) (hg : P.eqGuardType P.depth t = false) (b : Bool) (he : ∀ w, (Op.equalIn 10000 t (.agg xs) (.agg ys)).run P w = .ok b w)
    (h : W P ops D ns Q (k + 1) rest (a.put o.dst (.bool b))) : W P ops D ns Q k (o :: rest) a := ⟨Row.wpPh_eql t x y t2 ho hk hw xs ys hx hy hg b he h.out⟩
theorem neq (t : TypeId) (x y : Operand) (t2 : TypeId) (ho : o.op = .binOp .neq t x y t2) (hk : ns.idxOf? k = none) (hw : Region.wanted o (yielded ops a.tmps) = true)
    (xs ys : Array Value) (hx : a.eval x = .agg xs) (hy : a.eval y = .agg ys) (hg : P.eqGuardType P.depth t = false) (b : Bool) (he : ∀ w, (Op.equalIn 10000 t (.agg xs) (.agg ys)).run P w = .ok b w)
    (h : W P ops D ns Q (k + 1) rest (a.put o.dst (.bool (!b)))) : W P ops D ns Q k (o :: rest) a := ⟨Row.wpPh_neq t x y t2 ho hk hw xs ys hx hy hg b he h.out⟩
theorem store {p : Nat} (hk : ns.idxOf? k = some p) (hw : Region.wanted o (yielded ops a.tmps) = true)
    (ty : TypeId) (x y : Operand) (ho : o.op = .store ty x y) (q v : Value) (hx : a.eval x = q) (hy : a.eval y = v) (hs : ∀ w, D p w → ∃ w', (Instr.storeAt ty q v).run P w = .ok () w' ∧ D (p + 1) w')
    (h : W P ops D ns Q (k + 1) rest (a.put o.dst undef)) : W P ops D ns Q k (o :: rest) a := ⟨Row.wpPh_store hk hw ty x y ho q v hx hy hs h.out⟩
end
end Go.Proofs.Ytfekngnfjemgeaa.Pw
/- What is walked outside a round holds inside one: regions whose walk is known by the plain laws (wpList, Pw) serve in the body of a range over a function. No program in it. -/
namespace Go.Proofs.Ytfekngnfjemgeaa.Up
open Go Go.RowKit
def noDefer (l : List Oper) : Bool := l.all fun o => match o.op with | .defer _ => false | _ => true
theorem not_defer {l : List Oper} (h : noDefer l = true) {o : Oper} (ho : o ∈ l) : ∀ c, o.op ≠ .defer c := by
  intro c e
  have := List.all_eq_true.1 h o ho
  rw [e] at this
  cases this
section
variable {P : Program} {l n : Nat} {Q : Exit → Act → World → Prop}
theorem op_up {o : Oper} {a : Act} {w : World} {K K' : Act → World → Prop} (hn : ∀ a w, K a w → K' a w) (hd : ∀ c, o.op ≠ .defer c) (h : o.wp P a w K Q) : o.wpIn (Fence.wide.inRound l) n P a w K' Q := by
  refine ⟨fun _ _ => trivial, ?_⟩
  rw [show (Fence.wide.inRound l).round = some l from rfl, Oper.semAt_some l _ _ hd]
  unfold Oper.wp at h
  generalize (execOp a.eval o).run P w = r at h
  cases r with
  | ok nx w' =>
    cases nx with
    | value v => exact hn _ _ h
    | skip => exact hn _ _ h
    | defer d => exact hn _ _ h
    | enter f args =>
      refine ⟨fun h => (by cases h), CallsIn.inRound l (callsIn_wide.2 (Calls.mono h ?_))⟩
      intro e w'' he
      cases e with
      | returned v => exact hn _ _ he
      | panicked c => exact he
      | outgrown => exact he
    | row row args => exact ⟨fun h => (by cases h), fun c cs _ => let ⟨v, w', r, s⟩ := h c cs; ⟨v, w', hn _ _ r, stepsIn_wide.2 s⟩⟩
    | _ => exact h.elim
  | halt e w' =>
    cases e with
    | panic v => exact h
    | _ => exact h.elim
theorem list_up (hQ : ¬ LetsOut Q) {ops : Array Oper} : ∀ (m : List Oper) (a : Act) (w : World), noDefer m = true → wpList P ops Q m a w → wpListIn (Fence.wide.inRound l) n P ops Q m a w
  | [], a, w, _, h => h
  | o :: rest, a, w, hd, h => by
    have hr : noDefer rest = true := by unfold noDefer at hd ⊢; rw [List.all_cons, Bool.and_eq_true] at hd; exact hd.2
    unfold wpList at h
    unfold wpListIn
    split at h
    · rename_i hw
      rw [if_pos hw]
      rcases h with h | h
      · exact op_up (fun a w h => list_up hQ rest a w hr h) (not_defer hd (List.mem_cons_self ..)) h
      · exact absurd h.2 hQ
    · rename_i hw
      rw [if_neg hw]
      exact ⟨fun _ _ => trivial, list_up hQ rest _ _ hr h⟩
theorem any_up (hQ : ¬ LetsOut Q) {md : Region.Mode} {ops : Array Oper} (hd : noDefer ops.toList = true) : ∀ (fuel : Nat) (listed : Array Bool) (a : Act) (w : World), wpAny P md ops Q fuel listed a w → wpAnyIn (Fence.wide.inRound l) n P md ops Q fuel listed a w
  | 0, _, _, _, h => h
  | fuel + 1, listed, a, w, h => by
    refine ⟨h.1, fun i hi => ?_⟩
    have h1 := h.2 i hi
    unfold wpOp at h1
    unfold wpOpIn
    cases ho : ops[i]? with
    | none => rw [ho] at h1; exact any_up hQ hd fuel _ _ _ h1
    | some o =>
      rw [ho] at h1
      have hm : o ∈ ops.toList := List.mem_of_getElem? (by rw [Array.getElem?_toList]; exact ho)
      dsimp only at h1 ⊢
      split at h1
      · rename_i hw
        rw [if_pos hw]
        rcases h1 with h1 | h1
        · exact op_up (fun a w h => any_up hQ hd fuel _ a w h) (not_defer hd hm) h1
        · exact absurd h1.2 hQ
      · rename_i hw
        rw [if_neg hw]
        exact ⟨fun _ _ => trivial, any_up hQ hd fuel _ _ _ h1⟩
/-- A region that does not draw, in a round, by the plain walk. -/
theorem region_list {id : Nat} {m : List Oper} {a : Act} {w : World} (hQ : ¬ LetsOut Q) (hd : noDefer m = true) (h : wpList P m.toArray Q m a w) : (Code.region id m.toArray false).wpIn (Fence.wide.inRound l) n P Q a w :=
  wpIn_region_lit (list_up hQ m a w hd h)
/-- A region that draws, in a round, by phases. -/
theorem region_ph {id : Nat} {a : Act} {w : World} {m : List Oper} (D : Nat → World → Prop) (cs : List Nat) (hQ : ¬ LetsOut Q) (hd : noDefer m = true) (hm : P.follows .mixedOrders = true) (hB : Ph.okB .any m.toArray cs = true) (hD : D 0 w.drew)
    (h : Pw.W P m.toArray D cs (fun a' => ∀ w', D cs.length w' → Q .normal a' w') 0 m a) : (Code.region id m.toArray true).wpIn (Fence.wide.inRound l) n P Q a w := by
  have h := h.out
  simp only [Ph.okB, Bool.and_eq_true] at hB
  obtain ⟨⟨hs, hc⟩, hlex⟩ := hB
  have h1 := Ph.wpAnyP_lex (md := .any) hs hc m 0 (Array.replicate m.toArray.size false) a (by simp) (by simpa using hlex) h
  refine wpIn_region_any hm (any_up hQ (by simpa using hd) _ _ _ _ ?_)
  refine Ph.wpAny_of_ph (D := D) (cs := cs) (Q := fun L a => (cs.all fun c => L.getD c false) = true ∧ ∀ w', D cs.length w' → Q .normal a w') (fun L a w ⟨p, hp, hat, hd⟩ ⟨hall, hq⟩ => ?_) _ _ _ _ (by simp) ⟨0, Nat.zero_le _, fun q c _ => by rw [getD_replicate_false]; simp, hD⟩ (by simpa using h1)
  have hpe : p = cs.length := by
    rcases Nat.lt_or_ge p cs.length with h2 | h2
    · have h3 := hat p _ (List.getElem?_eq_getElem h2)
      have h4 := List.all_eq_true.1 hall _ (List.getElem_mem h2)
      rw [h4] at h3
      have := of_decide_eq_true h3.symm
      omega
    · omega
  subst hpe
  exact hq w hd
end
end Go.Proofs.Ytfekngnfjemgeaa.Up
/- The contract of the iterator set.Each, for a body that may know that what it is handed is in the set. At all integers. -/
namespace Go.Proofs.Ytfekngnfjemgeaa.Each
open Go.RowKit Go.Shelf
open Go.Proofs.Ytfekngnfjemgeaa
set_option linter.unusedVariables false

attribute [local go_sem] Oper.semAt_some

/-- The block B lies as it lay. -/
def Kept (B : Nat) (W W' : World) : Prop := W'.heap[B]? = W.heap[B]?
theorem Kept.refl (B : Nat) (W : World) : Kept B W W := rfl
theorem Kept.trans {B : Nat} {A C D : World} (h : Kept B A C) (k : Kept B C D) : Kept B A D := Eq.trans k h
theorem Kept.cell {B o : Nat} {A C : World} (h : Kept B A C) : C.cell? ⟨B, o, none⟩ = A.cell? ⟨B, o, none⟩ := by
  simp only [World.cell?, show C.heap[B]? = A.heap[B]? from h]
theorem Kept.below {n₀ B : Nat} {A C : World} (h : Below n₀ A C) (hB : B < n₀) : Kept B A C := h.block B hB
theorem Kept.setCell {B b o : Nat} (W : World) (v : Value) (h : B ≠ b) : Kept B W (W.setCell ⟨b, o, none⟩ v) := Below.heap_setCell _ _ _ B h
theorem kept_b {B : Nat} {w : World} (hB : B < w.heap.size) (W : World) (l : Nat) (o o' : Obj) (hl : w.heap.size ≤ l) (_ : W.heap[l]? = some o) (_ : o.isCells = false) (_ : o.isWalk = false) : Kept B W (W.putObj l o') :=
  World.putObj_heap_other (by omega)

set_option maxRecDepth 100000 in
set_option maxHeartbeats 2000000 in
/-- The iterator itself: for every loop body. -/
theorem each1_in (n : Nat) (hn : 1 ≤ n) (l Bs : Nat) (s : Int) (J Jx : List Int → World → Prop)
    (hY : ∀ pre (x : Int) W, J pre W → pre ++ [x] <+: SetM.list s → YieldAt Fence.wide (n - 1) Try.prog l #[.int .i64 x] W fun e W' =>
      (e = .returned (.bool true) ∧ J (pre ++ [x]) W' ∧ Kept Bs W W') ∨ (e = .returned (.bool false) ∧ Jx (pre ++ [x]) W'))
    (W : World) (hc : W.cell? ⟨Bs, 0, none⟩ = some (.int .i64 s)) (h0 : J [] W) :
    CallsIn Fence.wide n Try.prog 131 #[.func (.yield l) #[] #[], .pointer (some ⟨Bs, 0, none⟩)] W fun e W' => (∃ v, e = .returned v) ∧
      ((∃ ys, ys = SetM.list s ∧ J ys W') ∨ (∃ pre, pre <+: SetM.list s ∧ Jx pre W')) := by
  refine callsIn_of_wp Try.func131 rfl trivial ?_ rfl
  simp only [Try.ntmps131, List.size_toArray, List.length_cons, List.length_nil, Nat.reduceAdd, Nat.reduceSub, Array.replicate_succ, Array.replicate_zero, List.push_toArray, List.append_toArray, List.nil_append, List.cons_append]
  gi_wp2
  gi_loopw [4] (fun i wr => ∃ k : Nat, k ≤ 8 ∧ i = .int .i64 k ∧ J (SetM.upto s k) wr ∧ Kept Bs W wr)
    (fun i _ => 8 - (intOf i).toNat)
  case atStart => exact ⟨0, Nat.zero_le _, rfl, h0, Kept.refl _ _⟩
  case round =>
    obtain ⟨k, hk, rfl, hJs, hnx⟩ := hrel
    have hcx := (hnx.cell (o := 0)).trans hc
    by_cases hlt : k < 8
    · by_cases hh : SetM.has s k = true
      · obtain ⟨fn, tmps, assign, body, hy, hR⟩ := hY _ (k : Int) wr hJs (by rw [← SetM.upto_hit s k hh]; exact SetM.upto_list s (k + 1) (by omega))
        have Hs := Lib.hid (SetM.upto_hit s k hh)
        have Hp := Lib.hid (SetM.upto_list s (k + 1) (by omega))
        gi_wp2_with (refine ⟨trivial, ?_⟩; gi_at_call 114; refine (callsIn_wide.2 (SetP.has_any _ _ _)).mono ?_; rintro e w' ⟨rfl, rfl⟩; rw [hh])
        refine hR.mono ?_
        rintro e W3 (⟨rfl, hJ3, hk3⟩ | ⟨rfl, hJx3⟩)
        · gi_wp2
          go_roundw
          case rel => exact ⟨k + 1, by omega, by go_num, by rw [Hs.out]; exact hJ3, hnx.trans hk3⟩
          case measure => simp [intOf]; omega
        · gi_wp2
          refine bodyPost_ret (results_none rfl _ _ _) rfl ?_
          exact ⟨⟨_, rfl⟩, .inr ⟨_, by rw [← Hs.out]; exact Hp.out, hJx3⟩⟩
      · have hh' : SetM.has s k = false := by simpa using hh
        have Hs := Lib.hid (SetM.upto_miss s k hh')
        clear hh
        gi_wp2_with (refine ⟨trivial, ?_⟩; gi_at_call 114; refine (callsIn_wide.2 (SetP.has_any _ _ _)).mono ?_; rintro e w' ⟨rfl, rfl⟩; rw [hh'])
        refine ⟨fun _ h => (by cases h), ?_⟩
        gi_wp2
        go_roundw
        case rel => exact ⟨k + 1, by omega, by go_num, by rw [Hs.out]; exact hJs, hnx⟩
        case measure => simp [intOf]; omega
    · obtain rfl : k = 8 := by omega
      gi_wp2
      go_end0
      exact ⟨⟨_, rfl⟩, .inl ⟨_, rfl, hJs⟩⟩

set_option maxHeartbeats 1000000 in
/-- set.Each(s): the set is boxed; the function value captures the box. -/
theorem each_in (n : Nat) (s : Int) (w : World) :
    CallsIn Fence.wide n Try.prog 110 #[.int .i64 s] w fun e w' => e = .returned (.func (.func 131) #[] #[.pointer (some ⟨w.heap.size, 0, none⟩)]) ∧ w' = w.alloc (.cells #[.int .i64 s] 3) := by
  refine callsIn_of_wp Try.func110 rfl trivial ?_ rfl
  simp only [Try.ntmps110, List.size_toArray, List.length_cons, List.length_nil, Nat.reduceAdd, Nat.reduceSub, Array.replicate_succ, Array.replicate_zero, List.push_toArray, List.append_toArray, List.nil_append, List.cons_append]
  gi_wp2
  go_ret
  exact ⟨rfl, rfl⟩

/-- What the body is handed: a member of the set. -/
abbrev Mem (s : Int) := { x : Int // x ∈ SetM.list s }
/-- The value that set.Each hands back: the phases of s, in order; or the first of them, where a round has said 'no more'. -/
theorem each_mem (n : Nat) (hn : 1 ≤ n) (Bs : Nat) (s : Int) (w : World) (hBs : Bs < w.heap.size) (hc : w.cell? ⟨Bs, 0, none⟩ = some (.int .i64 s)) :
    SeqStopsK Fence.wide n Try.prog 131 #[.pointer (some ⟨Bs, 0, none⟩)] (fun x : Mem s => #[Value.int .i64 x.1]) (Kept Bs) (fun ys => ys.map Subtype.val = SetM.list s) (fun pre => pre.map Subtype.val <+: SetM.list s) (SetM.list s).length w := fun l J Jx W hW _ _ hY h0 => by
  refine (each1_in n hn l Bs s (fun pre W => ∃ m : List (Mem s), m.map Subtype.val = pre ∧ J m W) (fun pre W => ∃ m : List (Mem s), m.map Subtype.val = pre ∧ Jx m W) ?_ W ((hW.cell (p := ⟨Bs, 0, none⟩) hBs).trans hc) ⟨[], rfl, h0⟩).mono ?_
  · rintro pre x W1 ⟨m, rfl, hJ⟩ hp
    have hx : x ∈ SetM.list s := hp.subset (by simp)
    have hl : m.length < (SetM.list s).length := by have := hp.length_le; simp at this; omega
    obtain ⟨fn, tmps, assign, body, hy, hR⟩ := hY m ⟨x, hx⟩ W1 hJ hl
    refine ⟨fn, tmps, assign, body, hy, hR.mono ?_⟩
    rintro e W' (⟨h1, h2, h3⟩ | ⟨h1, h2⟩)
    · exact .inl ⟨h1, ⟨_, by simp, h2⟩, h3⟩
    · exact .inr ⟨h1, ⟨_, by simp, h2⟩⟩
  · rintro e W' ⟨hv, h⟩
    refine ⟨hv, ?_⟩
    rcases h with ⟨ys, rfl, m, hm, hJ⟩ | ⟨pre, hp, m, rfl, hJ⟩
    · exact .inl ⟨m, hm, hJ⟩
    · exact .inr ⟨m, hp, hJ⟩
end Go.Proofs.Ytfekngnfjemgeaa.Each
/- A search over the phases of a set, 'for p := range set.Each(s) { if bad(p) { return v(p) } }': one law for every body. -/
namespace Go.Proofs.Ytfekngnfjemgeaa.Search
open Go.RowKit Go.Shelf
open Each
set_option linter.unusedVariables false
/-- How a round of a search is left: it goes on, nothing that lay has turned; or it returns, and has written the block R. -/
def post (R : Nat) (o : Int → Obj) (bad : Int → Bool) (x : Int) (W : World) : Exit → Act → World → Prop
  | .normal, _, W' => bad x = false ∧ Below W.heap.size W W'
  | .ret, _, W' => bad x = true ∧ W.grownBy W' (some R) ∧ W'.heap[R]? = some (o x)
  | _, _, _ => False
theorem no_out {R : Nat} {o : Int → Obj} {bad : Int → Bool} {x : Int} {W : World} : ¬ LetsOut (post R o bad x W) := fun ⟨_, _, h⟩ => h
theorem keeps_below {B : Nat} {W W' : World} (h : Below W.heap.size W W') : KeepsFrom B W W' := ⟨h.size, fun k o _ hk _ => (h.block k (Array.getElem?_eq_some_iff.1 hk).1).trans hk⟩
theorem grown_of_below {W W' : World} {row : Option Nat} (h : Below W.heap.size W W') : W.grownBy W' row := ⟨h.os, h.tape, h.output, h.size, fun j hj _ => h.block j hj⟩
theorem grown_trans {A B C : World} {R : Nat} (h : A.grownBy B (some R)) (k : B.grownBy C (some R)) : A.grownBy C (some R) :=
  ⟨k.os.trans h.os, k.tape.trans h.tape, k.output.trans h.output, Nat.le_trans h.size k.size, fun j hj hne => (k.block j (Nat.lt_of_lt_of_le hj h.size) hne).trans (h.block j hj hne)⟩
theorem grown_from {A B C : World} {R : Nat} {row : Option Nat} (h : A.grownBy B (some R)) (k : B.grownBy C row) (hr : ∀ r, row = some r → A.heap.size ≤ r) : A.grownBy C (some R) :=
  ⟨k.os.trans h.os, k.tape.trans h.tape, k.output.trans h.output, Nat.le_trans h.size k.size, fun j hj hne => (k.block j (Nat.lt_of_lt_of_le hj h.size) (fun e => by have := hr j e.symm; omega)).trans (h.block j hj hne)⟩
theorem find_pre {f : Int → Bool} {l p : List Int} {x : Int} (hp : p ++ [x] <+: l) (hn : ∀ y ∈ p, f y = false) (hx : f x = true) : l.find? f = some x := by
  obtain ⟨t, rfl⟩ := hp
  rw [List.append_assoc, List.find?_append, List.find?_eq_none.2 (fun y hy => by simp [hn y hy])]
  simp [hx]
set_option maxHeartbeats 1000000 in
theorem search {n : Nat} {g : Operand} {ps : Array Tmp} {assign body : Code} {Q : Exit → Act → World → Prop} {a : Act} {W0 : World} (bad : Int → Bool) (o : Int → Obj) (Bs R : Nat) (s : Int)
    (hn : 3 ≤ n) (hg : a.eval g = .func (.func 131) #[] #[.pointer (some ⟨Bs, 0, none⟩)]) (hps : ps.size = 1) (hBs : Bs < W0.heap.size) (hR : R < W0.heap.size) (hc : W0.cell? ⟨Bs, 0, none⟩ = some (.int .i64 s)) (a₁ : Int → Act)
    (hassign : ∀ (l : Nat) (x : Int) (W : World) (K : Act → World → Prop), K (a₁ x) W → assign.wpIn (Fence.wide.inRound l) (n - 1 - 1) Try.prog (Exit.then K (fun _ _ _ => False)) { tmps := (ps.zip #[Value.int .i64 x]).foldl (fun t (p, v) => t.setIfInBounds p v) a.tmps, defers := [] } W)
    (hbody : ∀ (l : Nat) (x : Int) (W : World), x ∈ SetM.list s → Below W0.heap.size W0 W → body.wpIn (Fence.wide.inRound l) (n - 1 - 1) Try.prog (post R o bad x W) (a₁ x) W)
    (hdone : ∀ (D : Nat) (W : World), W0.heap.size ≤ D → (∀ x ∈ SetM.list s, bad x = false) → Below W0.heap.size W0 W → W.heap[D]? = some (.deferred (some [])) → Q .normal { a with defers := { target := .collected D, args := #[] } :: a.defers } W)
    (hstop : ∀ (D : Nat) (x : Int) (W : World), W0.heap.size ≤ D → (SetM.list s).find? bad = some x → bad x = true → W0.grownBy W (some R) → W.heap[R]? = some (o x) → W.heap[D]? = some (.deferred (some [])) → Code.ret.wpIn Fence.wide n Try.prog Q { a with defers := { target := .collected D, args := #[] } :: a.defers } W) :
    (Code.rangeFunc g ps assign body).wpIn Fence.wide n Try.prog Q a W0 := by
  refine wpIn_rangeFunc_ownG rfl (by omega) (gf := 131) (lb := #[.pointer (some ⟨Bs, 0, none⟩)]) hg trivial (enters_of Try.func131 (by kernel_rfl) rfl)
    (each_mem _ (by omega) Bs s W0 hBs hc) Kept.trans (kept_b hBs) (Below.refl _ _) (fun _ => hps.symm)
    (fun pre W => (∀ y ∈ pre, bad y.1 = false) ∧ Below W0.heap.size W0 W)
    (fun c pre W => (c = .ret ∧ ∃ p0 x, pre = p0 ++ [x] ∧ (∀ y ∈ p0, bad y.1 = false) ∧ bad x.1 = true ∧ W.heap[R]? = some (o x.1)) ∧ W0.grownBy W (some R))
    (OwnFrom.and (ownFrom_pure _ _) (ownFrom_below (Nat.le_refl _) (Nat.le_refl _)))
    ?own ⟨by simp, Below.refl _ _⟩ (fun x => a₁ x.1) (fun l x W K h => hassign l x.1 W K h) ?body ?done ?stop
  case own =>
    rintro c pre W W' row ⟨⟨h1, p0, x, h2, h3, h4, h5⟩, hg⟩ hgr hr
    have hlt : R < W.heap.size := (Array.getElem?_eq_some_iff.1 h5).1
    exact ⟨⟨h1, p0, x, h2, h3, h4, (hgr.block R hlt (fun e => by have := (hr R e.symm).1; omega)).trans h5⟩, grown_from hg hgr (fun r e => (hr r e).1)⟩
  case body =>
    rintro l pre x W ⟨hp, hB⟩ _
    refine wpIn_mono (hbody l x.1 W x.2 hB) ?_
    intro e a' W' h
    cases e with
    | normal =>
      obtain ⟨h1, h2⟩ := h
      refine ⟨keeps_below h2, Kept.below h2 (by have := hB.size; omega), ?_, hB.trans (h2.mono hB.size)⟩
      intro y hy
      rcases List.mem_append.1 hy with hy | hy
      · exact hp y hy
      · obtain rfl : y = x := by simpa using hy
        exact h1
    | ret =>
      obtain ⟨h1, h2, h3⟩ := h
      exact ⟨KeepsFrom.of_grownBy h2 (fun j e => by cases e; exact hR), ⟨rfl, pre, x, rfl, hp, h1, h3⟩, grown_trans (grown_of_below (hB.mono (Nat.le_refl _))) h2⟩
    | _ => exact h.elim
  case done =>
    rintro D xs W hD hS ⟨hp, hB⟩ hK
    refine hdone D W hD ?_ hB hK
    rw [← hS]
    intro x hx
    obtain ⟨y, hy, rfl⟩ := List.mem_map.1 hx
    exact hp y hy
  case stop =>
    rintro D c pre W hD hS ⟨⟨rfl, p0, x, rfl, h3, h4, h5⟩, hg⟩ hK
    refine hstop D x.1 W hD (find_pre (p := p0.map Subtype.val) (by simpa using hS) ?_ h4) h4 hg h5 hK
    intro y hy
    obtain ⟨z, hz, rfl⟩ := List.mem_map.1 hy
    exact h3 z hz
end Go.Proofs.Ytfekngnfjemgeaa.Search
/- The contracts of the closures that package check's elements makes, for detectors, rails and buses. -/
namespace Go.Proofs.Ytfekngnfjemgeaa.ChkE
open Go.ChangeShapes Go.WideShapes Go.ChangeAt Go.RowKit
open Tab PlaceM PlanM OnS ChkM ChkA ChkH
open ChkB (laid2)
open Same (below_setRow)
open May (ret_bool infoT infoD infoR infoB)
set_option linter.unusedVariables false
set_option linter.unusedSimpArgs false
theorem idx_hit {α : Type} {f : α → Bool} {l : List α} {q : Nat} {v : α} (hv : l[q]? = some v) (hb : f v = true) (hn : ∀ (j : Nat) u, j < q → l[j]? = some u → f u = false) : idx f l = some (q : Int) := by
  have h : l.findIdx? f = some q := by
    rw [List.findIdx?_eq_some_iff_getElem]
    obtain ⟨h1, h2⟩ := List.getElem?_eq_some_iff.1 hv
    refine ⟨h1, by rw [h2]; exact hb, fun j hj => ?_⟩
    have := hn j _ hj (List.getElem?_eq_getElem (by omega))
    simp [this]
  unfold idx; rw [h]; rfl
theorem idx_miss {α : Type} {f : α → Bool} {l : List α} (hn : ∀ (j : Nat) u, l[j]? = some u → f u = false) : idx f l = none := by
  have h : l.findIdx? f = none := by
    rw [List.findIdx?_eq_none_iff]
    intro x hx
    obtain ⟨j, hj, rfl⟩ := List.getElem_of_mem hx
    exact hn j _ (List.getElem?_eq_getElem hj)
  unfold idx; rw [h]; rfl
set_option maxRecDepth 100000 in
set_option maxHeartbeats 8000000 in
theorem elem_D (T : Tab) (h : Hd) (code : Int) (bl bb bc : Nat) (bad : Det → Bool) (w : World) (ht : IsTab w h T) (hbl : w.cell? ⟨bl, 0, none⟩ = some (.func (.func 83) #[] #[])) (hbb : w.cell? ⟨bb, 0, none⟩ = some (.func (.func 84) #[] #[])) (hbc : w.cell? ⟨bc, 0, none⟩ = some (.int .i64 code))
    (hbad : ∀ (v : Det) W, v ∈ T.dets → Below w.heap.size w W → Calls Try.prog 84 #[.agg (T.cells h).toArray, .agg v.cells.toArray] W fun e w' => e = .returned (.bool (bad v)) ∧ Below W.heap.size W w') :
    Calls Try.prog 116 #[.agg (T.cells h).toArray, .pointer (some ⟨bl, 0, none⟩), .pointer (some ⟨bb, 0, none⟩), .pointer (some ⟨bc, 0, none⟩)] w fun e w' => e = .returned (.agg (fltC code (idx bad T.dets))) ∧ Below w.heap.size w w' := by
  have hsz := (cells_ok ht).size
  have IA : Hid ((Try.prog.info? 32).map (·.size) = some (T.cells h).length) := Lib.hid (by rw [List.size_toArray] at hsz; rw [hsz]; exact infoT)
  have LS : Hid (∀ W, Below w.heap.size w W → Calls Try.prog 83 #[.agg (T.cells h).toArray] W fun e w' => e = .returned (h.d.val T.dets.length) ∧ Below W.heap.size W w') := Lib.hid (fun W hb => listD_any T h W (ht.below hb))
  have LT0 := Lib.hid (Row.lies_new w (T.cells h).toArray 32)
  have HBAD := Lib.hid hbad
  have HBL := Lib.hid (show ∀ W, Below w.heap.size w W → W.cell? ⟨bl, 0, none⟩ = some (.func (.func 83) #[] #[]) from fun W hb => (hb.cell (World.block_lt_of_cell? w _ hbl)).trans hbl)
  have HBB := Lib.hid (show ∀ W, Below w.heap.size w W → W.cell? ⟨bb, 0, none⟩ = some (.func (.func 84) #[] #[]) from fun W hb => (hb.cell (World.block_lt_of_cell? w _ hbb)).trans hbb)
  have HBC := Lib.hid (show ∀ W, Below w.heap.size w W → W.cell? ⟨bc, 0, none⟩ = some (.int .i64 code) from fun W hb => (hb.cell (World.block_lt_of_cell? w _ hbc)).trans hbc)
  have hs1 : (w.alloc (.cells (T.cells h).toArray 32)).heap.size = w.heap.size + 1 := by simp
  have en := enters_of Try.func84 (by kernel_rfl) rfl
  have en2 := enters_of Try.func83 (by kernel_rfl) rfl
  have RW := Lib.hid ht.dets
  have Kl := ht.dets.len
  unfold maxLen at Kl
  obtain ⟨o, ho⟩ : ∃ o, o = idx bad T.dets := ⟨_, rfl⟩
  rw [← ho]
  have HO := Lib.hid ho
  clear ht hbad hbl hbb hbc ho
  generalize hSl : h.d = sl at *
  obtain ⟨sa, scap⟩ := sl
  clear hSl
  generalize T.cells h = c at *
  generalize T.dets = l at *
  go_enter Try.func116, Try.ntmps116
  go_upto_region 1 with fail
  obtain ⟨W1, hW1, E1, E0, EB, bR⟩ := laid2 w (.cells c.toArray 32) (.cells #[.int .i64 0, .int .i64 0] 49)
  rw [hW1]
  have LT := Lib.hid (LT0.out.below (by rw [hs1]; exact EB))
  have B0 := Lib.hid E0
  have B2 : Hid (W1.heap[w.heap.size + 1]? = some (.cells #[.int .i64 0, .int .i64 0] 49 (0, 0))) := Lib.hid bR
  clear hW1 EB hs1 hsz LT0 E0 bR E1
  have hbl := HBL.out _ B0.out
  go_wp2_with (refine Row.wpList_load_g 32 _ rfl (by first | rfl | go_simp) ⟨w.heap.size, 0, none⟩ rfl c _ LT.out Try.underlying32 rfl IA.out ?_)
  (try go_wp2_with fail)
  refine (LS.out _ B0.out).mono ?_
  rintro e W3 ⟨rfl, hb⟩
  have HB3 := Lib.hid hb
  clear hb hbl
  rw [show (Sl.val ⟨sa, scap⟩ l.length) = .slice sa l.length scap from rfl]
  go_wp2_with fail
  go_loopw [12] (fun a wr => ∃ q : Nat, q ≤ l.length ∧ a = .int .i64 q ∧ (∀ j u, j < q → l[j]? = some u → bad u = false) ∧ Below W1.heap.size W1 wr) (fun a _ => l.length - (intOf a).toNat)
  case atStart => exact ⟨0, by omega, rfl, (fun j u h => by omega), HB3.out⟩
  case round =>
    obtain ⟨q, hq, rfl, hall, hB⟩ := hrel
    have HA := Lib.hid hall
    have HB := Lib.hid hB
    have BW : Hid (Below w.heap.size w wr) := Lib.hid (B0.out.trans (hB.mono B0.out.size))
    clear hall hB
    by_cases hlt : q < l.length
    · have hv := List.getElem?_eq_getElem hlt
      generalize hz : l[q] = v at hv
      have hmem : v ∈ l := List.mem_of_getElem? hv
      obtain ⟨x, hx, hc⟩ := (RW.out.below BW.out).at hv
      obtain rfl : sa = some x := hx
      have HC := Lib.hid hc
      have HV := Lib.hid hv
      have BD := Lib.hid (fun W hb => HBAD.out v W hmem hb)
      have hwr := HB.out.size
      clear hv hz hmem hc
      have VO := Lib.hid (Det.one v)
      obtain ⟨bv, hbv⟩ : ∃ z, bad v = z := ⟨_, rfl⟩
      have BDV := BD
      have IV : Hid ((Try.prog.info? 39).map (·.size) = some v.cells.length) := Lib.hid infoD
      go_upto_region 4 with (first | (refine Row.wpList_load_g 39 _ rfl (by first | rfl | go_simp) (x.add (q * 7)) rfl v.cells _ HC.out Try.underlying39 rfl IV.out ?_) | (refine Row.wpList_store_new rfl 39 _ _ rfl wr _ v.cells.toArray rfl rfl rfl infoD rfl VO.out ?_))
      have hbn : Below W1.heap.size W1 (wr.alloc (.cells v.cells.toArray 39)) := HB.out.alloc hwr _
      have hbo : Below wr.heap.size wr (wr.alloc (.cells v.cells.toArray 39)) := (Below.refl _ _).alloc (Nat.le_refl _) _
      have hg := Row.lies_new wr v.cells.toArray 39
      have HL : Hid (Lies (wr.alloc (.cells v.cells.toArray 39)) ⟨wr.heap.size, 0, none⟩ v.cells) := Lib.hid (by simpa using hg)
      have HN := Lib.hid hbn
      have LTW := Lib.hid ((LT.out.below HB.out).below hbo)
      clear hg hbn hbo HC VO
      generalize v.cells = vc at *
      generalize wr.alloc (.cells vc.toArray 39) = w4 at HL HN LTW ⊢
      generalize wr.heap.size = b4 at HL ⊢
      have BW4 : Hid (Below w.heap.size w w4) := Lib.hid (B0.out.trans (HN.out.mono B0.out.size))
      have hbb := HBB.out _ BW4.out
      go_wp2_with (first | (refine Row.wpList_load_g 32 _ rfl (by first | rfl | go_simp) ⟨w.heap.size, 0, none⟩ rfl c _ LTW.out Try.underlying32 rfl IA.out ?_) | (refine Row.wpList_load_g 39 _ rfl (by first | rfl | go_simp) ⟨b4, 0, none⟩ rfl vc _ HL.out Try.underlying39 rfl IV.out ?_))
      (try go_wp2_with fail)
      refine (BD.out _ BW4.out).mono ?_
      rintro e w5 ⟨rfl, hb⟩
      have HN5 := Lib.hid (HN.out.trans (hb.mono HN.out.size))
      have BW5 : Hid (Below w.heap.size w w5) := Lib.hid (BW4.out.trans (hb.mono BW4.out.size))
      clear hb hbb HN LTW BW4
      rw [hbv]
      cases bv with
      | true =>
        have RO : Hid (o = some (q : Int)) := Lib.hid (by rw [HO.out]; exact idx_hit HV.out hbv HA.out)
        have hbc := HBC.out _ BW5.out
        have C2 : Hid (w5.heap[w.heap.size + 1]? = some (.cells #[.int .i64 0, .int .i64 0] 49 (0, 0))) := Lib.hid ((HN5.out.block _ (Array.getElem?_eq_some_iff.1 B2.out).1).trans B2.out)
        clear hbv
        have HW := Lib.hid (below_setRow BW5.out (g := w.heap.size + 1) (by omega) #[.int .i64 code, .int .i64 q])
        have HK := Lib.hid (setRow_heap w5 (w.heap.size + 1) _ #[.int .i64 code, .int .i64 q] _ _ C2.out)
        go_wp2_with (first | (refine wpList_store_row rfl 49 _ _ rfl (w.heap.size + 1) #[.int .i64 code, .int .i64 q] rfl rfl 49 _ C2.out infoF rfl (by simp [Value.oneCell']) ?_))
        generalize w5.setRow (w.heap.size + 1) #[.int .i64 code, .int .i64 q] = uz at HW HK ⊢
        (try go_wp2_with fail)
        (try simp only [Exit.inBlock, Exit.then])
        refine bodyPost_ret (v := .agg #[.int .i64 code, .int .i64 q]) ?_ rfl ⟨by rw [RO.out]; rfl, HW.out⟩
        exact results_cell_row rfl _ _ (w.heap.size + 1) 49 _ (0, 0) _ rfl HK.out Try.underlying49 rfl infoF
      | false =>
        have HF := Lib.hid hbv
        clear hbv
        go_wp2
        go_roundw
        case rel => exact ⟨q + 1, by omega, by go_num, (fun j u hj hu => by
          by_cases e : j = q
          · subst e; obtain rfl := Option.some.inj (hu.symm.trans HV.out); exact HF.out
          · exact HA.out j u (by omega) hu), HN5.out⟩
        case measure => simp [intOf]; omega
    · have RO : Hid (o = none) := Lib.hid (by rw [HO.out]; exact idx_miss (fun j u hu => HA.out j u (by have := (List.getElem?_eq_some_iff.1 hu).1; omega) hu))
      have C2 : Hid (wr.heap[w.heap.size + 1]? = some (.cells #[.int .i64 0, .int .i64 0] 49 (0, 0))) := Lib.hid ((HB.out.block _ (Array.getElem?_eq_some_iff.1 B2.out).1).trans B2.out)
      have HW := Lib.hid (below_setRow BW.out (g := w.heap.size + 1) (by omega) #[.int .i64 0, .int .i64 0])
      have HK := Lib.hid (setRow_heap wr (w.heap.size + 1) _ #[.int .i64 0, .int .i64 0] _ _ C2.out)
      go_wp2_with (first | (refine wpList_store_row rfl 49 _ _ rfl (w.heap.size + 1) #[.int .i64 0, .int .i64 0] rfl rfl 49 _ C2.out infoF rfl (by simp [Value.oneCell']) ?_))
      generalize wr.setRow (w.heap.size + 1) #[.int .i64 0, .int .i64 0] = uz at HW HK ⊢
      (try go_wp2_with fail)
      (try simp only [Exit.inBlock, Exit.then])
      refine bodyPost_ret (v := .agg #[.int .i64 0, .int .i64 0]) ?_ rfl ⟨by rw [RO.out]; rfl, HW.out⟩
      exact results_cell_row rfl _ _ (w.heap.size + 1) 49 _ (0, 0) _ rfl HK.out Try.underlying49 rfl infoF
set_option maxRecDepth 100000 in
set_option maxHeartbeats 8000000 in
theorem elem_R (T : Tab) (h : Hd) (code : Int) (bl bb bc : Nat) (bad : Rl → Bool) (w : World) (ht : IsTab w h T) (hbl : w.cell? ⟨bl, 0, none⟩ = some (.func (.func 86) #[] #[])) (hbb : w.cell? ⟨bb, 0, none⟩ = some (.func (.func 87) #[] #[])) (hbc : w.cell? ⟨bc, 0, none⟩ = some (.int .i64 code))
    (hbad : ∀ (v : Rl) W, v ∈ T.rails → Below w.heap.size w W → Calls Try.prog 87 #[.agg (T.cells h).toArray, .agg v.cells.toArray] W fun e w' => e = .returned (.bool (bad v)) ∧ Below W.heap.size W w') :
    Calls Try.prog 117 #[.agg (T.cells h).toArray, .pointer (some ⟨bl, 0, none⟩), .pointer (some ⟨bb, 0, none⟩), .pointer (some ⟨bc, 0, none⟩)] w fun e w' => e = .returned (.agg (fltC code (idx bad T.rails))) ∧ Below w.heap.size w w' := by
  have hsz := (cells_ok ht).size
  have IA : Hid ((Try.prog.info? 32).map (·.size) = some (T.cells h).length) := Lib.hid (by rw [List.size_toArray] at hsz; rw [hsz]; exact infoT)
  have LS : Hid (∀ W, Below w.heap.size w W → Calls Try.prog 86 #[.agg (T.cells h).toArray] W fun e w' => e = .returned (h.r.val T.rails.length) ∧ Below W.heap.size W w') := Lib.hid (fun W hb => listR_any T h W (ht.below hb))
  have LT0 := Lib.hid (Row.lies_new w (T.cells h).toArray 32)
  have HBAD := Lib.hid hbad
  have HBL := Lib.hid (show ∀ W, Below w.heap.size w W → W.cell? ⟨bl, 0, none⟩ = some (.func (.func 86) #[] #[]) from fun W hb => (hb.cell (World.block_lt_of_cell? w _ hbl)).trans hbl)
  have HBB := Lib.hid (show ∀ W, Below w.heap.size w W → W.cell? ⟨bb, 0, none⟩ = some (.func (.func 87) #[] #[]) from fun W hb => (hb.cell (World.block_lt_of_cell? w _ hbb)).trans hbb)
  have HBC := Lib.hid (show ∀ W, Below w.heap.size w W → W.cell? ⟨bc, 0, none⟩ = some (.int .i64 code) from fun W hb => (hb.cell (World.block_lt_of_cell? w _ hbc)).trans hbc)
  have hs1 : (w.alloc (.cells (T.cells h).toArray 32)).heap.size = w.heap.size + 1 := by simp
  have en := enters_of Try.func87 (by kernel_rfl) rfl
  have en2 := enters_of Try.func86 (by kernel_rfl) rfl
  have RW := Lib.hid ht.rails
  have Kl := ht.rails.len
  unfold maxLen at Kl
  obtain ⟨o, ho⟩ : ∃ o, o = idx bad T.rails := ⟨_, rfl⟩
  rw [← ho]
  have HO := Lib.hid ho
  clear ht hbad hbl hbb hbc ho
  generalize hSl : h.r = sl at *
  obtain ⟨sa, scap⟩ := sl
  clear hSl
  generalize T.cells h = c at *
  generalize T.rails = l at *
  go_enter Try.func117, Try.ntmps117
  go_upto_region 1 with fail
  obtain ⟨W1, hW1, E1, E0, EB, bR⟩ := laid2 w (.cells c.toArray 32) (.cells #[.int .i64 0, .int .i64 0] 49)
  rw [hW1]
  have LT := Lib.hid (LT0.out.below (by rw [hs1]; exact EB))
  have B0 := Lib.hid E0
  have B2 : Hid (W1.heap[w.heap.size + 1]? = some (.cells #[.int .i64 0, .int .i64 0] 49 (0, 0))) := Lib.hid bR
  clear hW1 EB hs1 hsz LT0 E0 bR E1
  have hbl := HBL.out _ B0.out
  go_wp2_with (refine Row.wpList_load_g 32 _ rfl (by first | rfl | go_simp) ⟨w.heap.size, 0, none⟩ rfl c _ LT.out Try.underlying32 rfl IA.out ?_)
  (try go_wp2_with fail)
  refine (LS.out _ B0.out).mono ?_
  rintro e W3 ⟨rfl, hb⟩
  have HB3 := Lib.hid hb
  clear hb hbl
  rw [show (Sl.val ⟨sa, scap⟩ l.length) = .slice sa l.length scap from rfl]
  go_wp2_with fail
  go_loopw [12] (fun a wr => ∃ q : Nat, q ≤ l.length ∧ a = .int .i64 q ∧ (∀ j u, j < q → l[j]? = some u → bad u = false) ∧ Below W1.heap.size W1 wr) (fun a _ => l.length - (intOf a).toNat)
  case atStart => exact ⟨0, by omega, rfl, (fun j u h => by omega), HB3.out⟩
  case round =>
    obtain ⟨q, hq, rfl, hall, hB⟩ := hrel
    have HA := Lib.hid hall
    have HB := Lib.hid hB
    have BW : Hid (Below w.heap.size w wr) := Lib.hid (B0.out.trans (hB.mono B0.out.size))
    clear hall hB
    by_cases hlt : q < l.length
    · have hv := List.getElem?_eq_getElem hlt
      generalize hz : l[q] = v at hv
      have hmem : v ∈ l := List.mem_of_getElem? hv
      obtain ⟨x, hx, hc⟩ := (RW.out.below BW.out).at hv
      obtain rfl : sa = some x := hx
      have HC := Lib.hid hc
      have HV := Lib.hid hv
      have BD := Lib.hid (fun W hb => HBAD.out v W hmem hb)
      have hwr := HB.out.size
      clear hv hz hmem hc
      have VO := Lib.hid (Rl.one v)
      obtain ⟨bv, hbv⟩ : ∃ z, bad v = z := ⟨_, rfl⟩
      have BDV := BD
      have IV : Hid ((Try.prog.info? 41).map (·.size) = some v.cells.length) := Lib.hid infoR
      go_upto_region 4 with (first | (refine Row.wpList_load_g 41 _ rfl (by first | rfl | go_simp) (x.add (q * 11)) rfl v.cells _ HC.out Try.underlying41 rfl IV.out ?_) | (refine Row.wpList_store_new rfl 41 _ _ rfl wr _ v.cells.toArray rfl rfl rfl infoR rfl VO.out ?_))
      have hbn : Below W1.heap.size W1 (wr.alloc (.cells v.cells.toArray 41)) := HB.out.alloc hwr _
      have hbo : Below wr.heap.size wr (wr.alloc (.cells v.cells.toArray 41)) := (Below.refl _ _).alloc (Nat.le_refl _) _
      have hg := Row.lies_new wr v.cells.toArray 41
      have HL : Hid (Lies (wr.alloc (.cells v.cells.toArray 41)) ⟨wr.heap.size, 0, none⟩ v.cells) := Lib.hid (by simpa using hg)
      have HN := Lib.hid hbn
      have LTW := Lib.hid ((LT.out.below HB.out).below hbo)
      clear hg hbn hbo HC VO
      generalize v.cells = vc at *
      generalize wr.alloc (.cells vc.toArray 41) = w4 at HL HN LTW ⊢
      generalize wr.heap.size = b4 at HL ⊢
      have BW4 : Hid (Below w.heap.size w w4) := Lib.hid (B0.out.trans (HN.out.mono B0.out.size))
      have hbb := HBB.out _ BW4.out
      go_wp2_with (first | (refine Row.wpList_load_g 32 _ rfl (by first | rfl | go_simp) ⟨w.heap.size, 0, none⟩ rfl c _ LTW.out Try.underlying32 rfl IA.out ?_) | (refine Row.wpList_load_g 41 _ rfl (by first | rfl | go_simp) ⟨b4, 0, none⟩ rfl vc _ HL.out Try.underlying41 rfl IV.out ?_))
      (try go_wp2_with fail)
      refine (BD.out _ BW4.out).mono ?_
      rintro e w5 ⟨rfl, hb⟩
      have HN5 := Lib.hid (HN.out.trans (hb.mono HN.out.size))
      have BW5 : Hid (Below w.heap.size w w5) := Lib.hid (BW4.out.trans (hb.mono BW4.out.size))
      clear hb hbb HN LTW BW4
      rw [hbv]
      cases bv with
      | true =>
        have RO : Hid (o = some (q : Int)) := Lib.hid (by rw [HO.out]; exact idx_hit HV.out hbv HA.out)
        have hbc := HBC.out _ BW5.out
        have C2 : Hid (w5.heap[w.heap.size + 1]? = some (.cells #[.int .i64 0, .int .i64 0] 49 (0, 0))) := Lib.hid ((HN5.out.block _ (Array.getElem?_eq_some_iff.1 B2.out).1).trans B2.out)
        clear hbv
        have HW := Lib.hid (below_setRow BW5.out (g := w.heap.size + 1) (by omega) #[.int .i64 code, .int .i64 q])
        have HK := Lib.hid (setRow_heap w5 (w.heap.size + 1) _ #[.int .i64 code, .int .i64 q] _ _ C2.out)
        go_wp2_with (first | (refine wpList_store_row rfl 49 _ _ rfl (w.heap.size + 1) #[.int .i64 code, .int .i64 q] rfl rfl 49 _ C2.out infoF rfl (by simp [Value.oneCell']) ?_))
        generalize w5.setRow (w.heap.size + 1) #[.int .i64 code, .int .i64 q] = uz at HW HK ⊢
        (try go_wp2_with fail)
        (try simp only [Exit.inBlock, Exit.then])
        refine bodyPost_ret (v := .agg #[.int .i64 code, .int .i64 q]) ?_ rfl ⟨by rw [RO.out]; rfl, HW.out⟩
        exact results_cell_row rfl _ _ (w.heap.size + 1) 49 _ (0, 0) _ rfl HK.out Try.underlying49 rfl infoF
      | false =>
        have HF := Lib.hid hbv
        clear hbv
        go_wp2
        go_roundw
        case rel => exact ⟨q + 1, by omega, by go_num, (fun j u hj hu => by
          by_cases e : j = q
          · subst e; obtain rfl := Option.some.inj (hu.symm.trans HV.out); exact HF.out
          · exact HA.out j u (by omega) hu), HN5.out⟩
        case measure => simp [intOf]; omega
    · have RO : Hid (o = none) := Lib.hid (by rw [HO.out]; exact idx_miss (fun j u hu => HA.out j u (by have := (List.getElem?_eq_some_iff.1 hu).1; omega) hu))
      have C2 : Hid (wr.heap[w.heap.size + 1]? = some (.cells #[.int .i64 0, .int .i64 0] 49 (0, 0))) := Lib.hid ((HB.out.block _ (Array.getElem?_eq_some_iff.1 B2.out).1).trans B2.out)
      have HW := Lib.hid (below_setRow BW.out (g := w.heap.size + 1) (by omega) #[.int .i64 0, .int .i64 0])
      have HK := Lib.hid (setRow_heap wr (w.heap.size + 1) _ #[.int .i64 0, .int .i64 0] _ _ C2.out)
      go_wp2_with (first | (refine wpList_store_row rfl 49 _ _ rfl (w.heap.size + 1) #[.int .i64 0, .int .i64 0] rfl rfl 49 _ C2.out infoF rfl (by simp [Value.oneCell']) ?_))
      generalize wr.setRow (w.heap.size + 1) #[.int .i64 0, .int .i64 0] = uz at HW HK ⊢
      (try go_wp2_with fail)
      (try simp only [Exit.inBlock, Exit.then])
      refine bodyPost_ret (v := .agg #[.int .i64 0, .int .i64 0]) ?_ rfl ⟨by rw [RO.out]; rfl, HW.out⟩
      exact results_cell_row rfl _ _ (w.heap.size + 1) 49 _ (0, 0) _ rfl HK.out Try.underlying49 rfl infoF
set_option maxRecDepth 100000 in
set_option maxHeartbeats 8000000 in
theorem elem_B (T : Tab) (h : Hd) (code : Int) (bl bb bc : Nat) (bad : Bs → Bool) (w : World) (ht : IsTab w h T) (hbl : w.cell? ⟨bl, 0, none⟩ = some (.func (.func 89) #[] #[])) (hbb : w.cell? ⟨bb, 0, none⟩ = some (.func (.func 90) #[] #[])) (hbc : w.cell? ⟨bc, 0, none⟩ = some (.int .i64 code))
    (hbad : ∀ (v : Bs) W, v ∈ T.buses → Below w.heap.size w W → Calls Try.prog 90 #[.agg (T.cells h).toArray, .agg v.cells.toArray] W fun e w' => e = .returned (.bool (bad v)) ∧ Below W.heap.size W w') :
    Calls Try.prog 122 #[.agg (T.cells h).toArray, .pointer (some ⟨bl, 0, none⟩), .pointer (some ⟨bb, 0, none⟩), .pointer (some ⟨bc, 0, none⟩)] w fun e w' => e = .returned (.agg (fltC code (idx bad T.buses))) ∧ Below w.heap.size w w' := by
  have hsz := (cells_ok ht).size
  have IA : Hid ((Try.prog.info? 32).map (·.size) = some (T.cells h).length) := Lib.hid (by rw [List.size_toArray] at hsz; rw [hsz]; exact infoT)
  have LS : Hid (∀ W, Below w.heap.size w W → Calls Try.prog 89 #[.agg (T.cells h).toArray] W fun e w' => e = .returned (h.b.val T.buses.length) ∧ Below W.heap.size W w') := Lib.hid (fun W hb => listB_any T h W (ht.below hb))
  have LT0 := Lib.hid (Row.lies_new w (T.cells h).toArray 32)
  have HBAD := Lib.hid hbad
  have HBL := Lib.hid (show ∀ W, Below w.heap.size w W → W.cell? ⟨bl, 0, none⟩ = some (.func (.func 89) #[] #[]) from fun W hb => (hb.cell (World.block_lt_of_cell? w _ hbl)).trans hbl)
  have HBB := Lib.hid (show ∀ W, Below w.heap.size w W → W.cell? ⟨bb, 0, none⟩ = some (.func (.func 90) #[] #[]) from fun W hb => (hb.cell (World.block_lt_of_cell? w _ hbb)).trans hbb)
  have HBC := Lib.hid (show ∀ W, Below w.heap.size w W → W.cell? ⟨bc, 0, none⟩ = some (.int .i64 code) from fun W hb => (hb.cell (World.block_lt_of_cell? w _ hbc)).trans hbc)
  have hs1 : (w.alloc (.cells (T.cells h).toArray 32)).heap.size = w.heap.size + 1 := by simp
  have en := enters_of Try.func90 (by kernel_rfl) rfl
  have en2 := enters_of Try.func89 (by kernel_rfl) rfl
  have RW := Lib.hid ht.buses
  have Kl := ht.buses.len
  unfold maxLen at Kl
  obtain ⟨o, ho⟩ : ∃ o, o = idx bad T.buses := ⟨_, rfl⟩
  rw [← ho]
  have HO := Lib.hid ho
  clear ht hbad hbl hbb hbc ho
  generalize hSl : h.b = sl at *
  obtain ⟨sa, scap⟩ := sl
  clear hSl
  generalize T.cells h = c at *
  generalize T.buses = l at *
  go_enter Try.func122, Try.ntmps122
  go_upto_region 1 with fail
  obtain ⟨W1, hW1, E1, E0, EB, bR⟩ := laid2 w (.cells c.toArray 32) (.cells #[.int .i64 0, .int .i64 0] 49)
  rw [hW1]
  have LT := Lib.hid (LT0.out.below (by rw [hs1]; exact EB))
  have B0 := Lib.hid E0
  have B2 : Hid (W1.heap[w.heap.size + 1]? = some (.cells #[.int .i64 0, .int .i64 0] 49 (0, 0))) := Lib.hid bR
  clear hW1 EB hs1 hsz LT0 E0 bR E1
  have hbl := HBL.out _ B0.out
  go_wp2_with (refine Row.wpList_load_g 32 _ rfl (by first | rfl | go_simp) ⟨w.heap.size, 0, none⟩ rfl c _ LT.out Try.underlying32 rfl IA.out ?_)
  (try go_wp2_with fail)
  refine (LS.out _ B0.out).mono ?_
  rintro e W3 ⟨rfl, hb⟩
  have HB3 := Lib.hid hb
  clear hb hbl
  rw [show (Sl.val ⟨sa, scap⟩ l.length) = .slice sa l.length scap from rfl]
  go_wp2_with fail
  go_loopw [12] (fun a wr => ∃ q : Nat, q ≤ l.length ∧ a = .int .i64 q ∧ (∀ j u, j < q → l[j]? = some u → bad u = false) ∧ Below W1.heap.size W1 wr) (fun a _ => l.length - (intOf a).toNat)
  case atStart => exact ⟨0, by omega, rfl, (fun j u h => by omega), HB3.out⟩
  case round =>
    obtain ⟨q, hq, rfl, hall, hB⟩ := hrel
    have HA := Lib.hid hall
    have HB := Lib.hid hB
    have BW : Hid (Below w.heap.size w wr) := Lib.hid (B0.out.trans (hB.mono B0.out.size))
    clear hall hB
    by_cases hlt : q < l.length
    · have hv := List.getElem?_eq_getElem hlt
      generalize hz : l[q] = v at hv
      have hmem : v ∈ l := List.mem_of_getElem? hv
      obtain ⟨x, hx, hc⟩ := (RW.out.below BW.out).at hv
      obtain rfl : sa = some x := hx
      have HC := Lib.hid hc
      have HV := Lib.hid hv
      have BD := Lib.hid (fun W hb => HBAD.out v W hmem hb)
      have hwr := HB.out.size
      clear hv hz hmem hc
      have VO := Lib.hid (Bs.one v)
      obtain ⟨bv, hbv⟩ : ∃ z, bad v = z := ⟨_, rfl⟩
      have BDV := BD
      have IV : Hid ((Try.prog.info? 43).map (·.size) = some v.cells.length) := Lib.hid infoB
      go_upto_region 4 with (first | (refine Row.wpList_load_g 43 _ rfl (by first | rfl | go_simp) (x.add (q * 2)) rfl v.cells _ HC.out Try.underlying43 rfl IV.out ?_) | (refine Row.wpList_store_new rfl 43 _ _ rfl wr _ v.cells.toArray rfl rfl rfl infoB rfl VO.out ?_))
      have hbn : Below W1.heap.size W1 (wr.alloc (.cells v.cells.toArray 43)) := HB.out.alloc hwr _
      have hbo : Below wr.heap.size wr (wr.alloc (.cells v.cells.toArray 43)) := (Below.refl _ _).alloc (Nat.le_refl _) _
      have hg := Row.lies_new wr v.cells.toArray 43
      have HL : Hid (Lies (wr.alloc (.cells v.cells.toArray 43)) ⟨wr.heap.size, 0, none⟩ v.cells) := Lib.hid (by simpa using hg)
      have HN := Lib.hid hbn
      have LTW := Lib.hid ((LT.out.below HB.out).below hbo)
      clear hg hbn hbo HC VO
      generalize v.cells = vc at *
      generalize wr.alloc (.cells vc.toArray 43) = w4 at HL HN LTW ⊢
      generalize wr.heap.size = b4 at HL ⊢
      have BW4 : Hid (Below w.heap.size w w4) := Lib.hid (B0.out.trans (HN.out.mono B0.out.size))
      have hbb := HBB.out _ BW4.out
      go_wp2_with (first | (refine Row.wpList_load_g 32 _ rfl (by first | rfl | go_simp) ⟨w.heap.size, 0, none⟩ rfl c _ LTW.out Try.underlying32 rfl IA.out ?_) | (refine Row.wpList_load_g 43 _ rfl (by first | rfl | go_simp) ⟨b4, 0, none⟩ rfl vc _ HL.out Try.underlying43 rfl IV.out ?_))
      (try go_wp2_with fail)
      refine (BD.out _ BW4.out).mono ?_
      rintro e w5 ⟨rfl, hb⟩
      have HN5 := Lib.hid (HN.out.trans (hb.mono HN.out.size))
      have BW5 : Hid (Below w.heap.size w w5) := Lib.hid (BW4.out.trans (hb.mono BW4.out.size))
      clear hb hbb HN LTW BW4
      rw [hbv]
      cases bv with
      | true =>
        have RO : Hid (o = some (q : Int)) := Lib.hid (by rw [HO.out]; exact idx_hit HV.out hbv HA.out)
        have hbc := HBC.out _ BW5.out
        have C2 : Hid (w5.heap[w.heap.size + 1]? = some (.cells #[.int .i64 0, .int .i64 0] 49 (0, 0))) := Lib.hid ((HN5.out.block _ (Array.getElem?_eq_some_iff.1 B2.out).1).trans B2.out)
        clear hbv
        have HW := Lib.hid (below_setRow BW5.out (g := w.heap.size + 1) (by omega) #[.int .i64 code, .int .i64 q])
        have HK := Lib.hid (setRow_heap w5 (w.heap.size + 1) _ #[.int .i64 code, .int .i64 q] _ _ C2.out)
        go_wp2_with (first | (refine wpList_store_row rfl 49 _ _ rfl (w.heap.size + 1) #[.int .i64 code, .int .i64 q] rfl rfl 49 _ C2.out infoF rfl (by simp [Value.oneCell']) ?_))
        generalize w5.setRow (w.heap.size + 1) #[.int .i64 code, .int .i64 q] = uz at HW HK ⊢
        (try go_wp2_with fail)
        (try simp only [Exit.inBlock, Exit.then])
        refine bodyPost_ret (v := .agg #[.int .i64 code, .int .i64 q]) ?_ rfl ⟨by rw [RO.out]; rfl, HW.out⟩
        exact results_cell_row rfl _ _ (w.heap.size + 1) 49 _ (0, 0) _ rfl HK.out Try.underlying49 rfl infoF
      | false =>
        have HF := Lib.hid hbv
        clear hbv
        go_wp2
        go_roundw
        case rel => exact ⟨q + 1, by omega, by go_num, (fun j u hj hu => by
          by_cases e : j = q
          · subst e; obtain rfl := Option.some.inj (hu.symm.trans HV.out); exact HF.out
          · exact HA.out j u (by omega) hu), HN5.out⟩
        case measure => simp [intOf]; omega
    · have RO : Hid (o = none) := Lib.hid (by rw [HO.out]; exact idx_miss (fun j u hu => HA.out j u (by have := (List.getElem?_eq_some_iff.1 hu).1; omega) hu))
      have C2 : Hid (wr.heap[w.heap.size + 1]? = some (.cells #[.int .i64 0, .int .i64 0] 49 (0, 0))) := Lib.hid ((HB.out.block _ (Array.getElem?_eq_some_iff.1 B2.out).1).trans B2.out)
      have HW := Lib.hid (below_setRow BW.out (g := w.heap.size + 1) (by omega) #[.int .i64 0, .int .i64 0])
      have HK := Lib.hid (setRow_heap wr (w.heap.size + 1) _ #[.int .i64 0, .int .i64 0] _ _ C2.out)
      go_wp2_with (first | (refine wpList_store_row rfl 49 _ _ rfl (w.heap.size + 1) #[.int .i64 0, .int .i64 0] rfl rfl 49 _ C2.out infoF rfl (by simp [Value.oneCell']) ?_))
      generalize wr.setRow (w.heap.size + 1) #[.int .i64 0, .int .i64 0] = uz at HW HK ⊢
      (try go_wp2_with fail)
      (try simp only [Exit.inBlock, Exit.then])
      refine bodyPost_ret (v := .agg #[.int .i64 0, .int .i64 0]) ?_ rfl ⟨by rw [RO.out]; rfl, HW.out⟩
      exact results_cell_row rfl _ _ (w.heap.size + 1) 49 _ (0, 0) _ rfl HK.out Try.underlying49 rfl infoF
end Go.Proofs.Ytfekngnfjemgeaa.ChkE
/- The contracts of package check's searches over sets: clash. -/
namespace Go.Proofs.Ytfekngnfjemgeaa.ChkI
open Go.RowKit Go.Shelf
open Tab PlaceM PlanM OnS ChkM Each Search
set_option linter.unusedVariables false
set_option linter.unusedSimpArgs false
attribute [local go_sem] Oper.semAt_some
/-- What a table's box gives: the conflicts and the flash of each phase. -/
structure Bxd (T : Tab) (b : Nat) (W : World) : Prop where
  cf : ∀ p : Int, 0 ≤ p → p < 8 → W.cell? ⟨b, 105 + p.toNat, none⟩ = some (I (cfAt T p))
  fl : ∀ p : Int, 0 ≤ p → p < 8 → W.cell? ⟨b, 121 + p.toNat, none⟩ = some (I (flAt T p))
theorem bxd_new {T : Tab} {h : Hd} {w : World} (ht : IsTab w h T) : Bxd T w.heap.size (w.alloc (.cells (T.cells h).toArray 32)) := by
  have C := cells_ok ht
  have hb : (w.alloc (.cells (T.cells h).toArray 32)).heap[w.heap.size]? = some (.cells (T.cells h).toArray 32 (0, 0)) := heap_alloc_new w _
  constructor
  · intro p h0 h8
    obtain ⟨k, rfl⟩ := Int.eq_ofNat_of_zero_le h0
    rw [cell_of_row _ _ _ _ _ _ hb]
    have hk : k < 8 := by omega
    have h1 := congrArg (·[k]?) C.conflict
    simp only [List.getElem?_take, List.getElem?_drop, List.getElem?_map] at h1
    rw [if_pos hk, Array.getElem?_toList] at h1
    rw [Int.toNat_natCast, h1, List.getElem?_eq_getElem (by rw [ht.cf]; exact hk)]
    simp [cfAt, List.getD_eq_getElem?_getD, List.getElem?_eq_getElem (show k < T.conflict.length by rw [ht.cf]; exact hk)]
  · intro p h0 h8
    obtain ⟨k, rfl⟩ := Int.eq_ofNat_of_zero_le h0
    rw [cell_of_row _ _ _ _ _ _ hb]
    have hk : k < 8 := by omega
    have h1 := congrArg (·[k]?) C.flash
    simp only [List.getElem?_take, List.getElem?_drop, List.getElem?_map] at h1
    rw [if_pos hk, Array.getElem?_toList] at h1
    rw [Int.toNat_natCast, h1, List.getElem?_eq_getElem (by rw [ht.fl]; exact hk)]
    simp [flAt, List.getD_eq_getElem?_getD, List.getElem?_eq_getElem (show k < T.flash.length by rw [ht.fl]; exact hk)]
theorem Bxd.below {T : Tab} {b : Nat} {W W' : World} (h : Bxd T b W) (hb : Below W.heap.size W W') : Bxd T b W' :=
  ⟨fun p h0 h8 => (hb.cell (World.block_lt_of_cell? W _ (h.cf p h0 h8))).trans (h.cf p h0 h8), fun p h0 h8 => (hb.cell (World.block_lt_of_cell? W _ (h.fl p h0 h8))).trans (h.fl p h0 h8)⟩
/-- Four blocks laid one behind the other. -/
theorem laid4 (w : World) (o0 o1 o2 o3 : Obj) : ∃ W, ((((w.alloc o0).alloc o1).alloc o2).alloc o3) = W ∧ W.heap.size = w.heap.size + 4 ∧ Below w.heap.size w W ∧ Below (w.heap.size + 1) (w.alloc o0) W ∧ W.heap[w.heap.size + 1]? = some o1 ∧ W.heap[w.heap.size + 2]? = some o2 ∧ W.heap[w.heap.size + 3]? = some o3 := by
  refine ⟨_, rfl, by simp, (((((Below.refl _ w).alloc (Nat.le_refl _) _).alloc (by simp) _).alloc (by simp; omega) _).alloc (by simp; omega) _), ?_, ?_, ?_, ?_⟩
  · have := (((Below.refl (w.alloc o0).heap.size (w.alloc o0)).alloc (Nat.le_refl _) o1).alloc (by simp) o2).alloc (by simp; try omega) o3
    simpa using this
  · have h1 := heap_alloc_new (w.alloc o0) o1
    have h2 := Below.heap_alloc ((w.alloc o0).alloc o1) o2 (w.heap.size + 1) (by simp)
    have h3 := Below.heap_alloc (((w.alloc o0).alloc o1).alloc o2) o3 (w.heap.size + 1) (by simp)
    rw [World.size_alloc] at h1
    exact h3.trans (h2.trans h1)
  · have h1 := heap_alloc_new ((w.alloc o0).alloc o1) o2
    have h3 := Below.heap_alloc (((w.alloc o0).alloc o1).alloc o2) o3 (w.heap.size + 2) (by simp)
    simp only [World.size_alloc] at h1
    exact h3.trans h1
  · have h1 := heap_alloc_new (((w.alloc o0).alloc o1).alloc o2) o3
    simp only [World.size_alloc] at h1
    exact h1
theorem setRow_grown (W : World) (b : Nat) (cs : Array Value) (h : b < W.heap.size) : W.grownBy (W.setRow b cs) (some b) :=
  ⟨rfl, rfl, rfl, by simp [World.setRow], fun j _ hj => setRow_other _ _ _ _ (fun e => hj (by rw [e]))⟩
theorem hmx : Try.prog.follows .mixedOrders = true := by kernel_rfl
set_option maxRecDepth 100000 in
set_option maxHeartbeats 2000000 in
theorem clash_any (T : Tab) (h : Hd) (s : Int) (w : World) (ht : IsTab w h T) :
    Calls Try.prog 119 #[.agg (T.cells h).toArray, .int .i64 s] w fun e w' => e = .returned (.bool (clashC T s)) ∧ Below w.heap.size w w' := by
  have hsz := (cells_ok ht).size
  have A0 : Hid (Below w.heap.size w (w.alloc (.cells (T.cells h).toArray 32))) := Lib.hid ((Below.refl _ _).alloc (Nat.le_refl _) _)
  have BX := Lib.hid (bxd_new ht)
  have hs1 : (w.alloc (.cells (T.cells h).toArray 32)).heap.size = w.heap.size + 1 := by simp
  clear ht
  generalize T.cells h = c at *
  refine (callsIn_wide (n := 3)).1 ?_
  refine callsIn_of_wp_marks Try.func119 rfl trivial ?_ rfl
  simp only [Try.ntmps119, List.size_toArray, List.length_cons, List.length_nil, Nat.reduceAdd, Nat.reduceSub, Array.replicate_succ, Array.replicate_zero, List.push_toArray, List.append_toArray, List.nil_append, List.cons_append]
  gi_wp2_with fail
  refine ⟨trivial, (Each.each_in _ _ _).mono ?_⟩
  rintro e w' ⟨rfl, rfl⟩
  gi_wp2_with fail
  obtain ⟨W0, hW0, E1, E0, EB, bS, bR, bE⟩ := laid4 w (.cells c.toArray 32) (.cells #[.int .i64 s] 3) (.cells #[.bool false] 4) (.cells #[.int .i64 s] 3)
  rw [hW0]
  have BX := Lib.hid (BX.out.below (by rw [hs1]; exact EB))
  clear hW0 EB hs1 hsz A0
  have bS : Boxed W0 (w.heap.size + 1) 3 (.int .i64 s) := bS
  have bR : Boxed W0 (w.heap.size + 2) 4 (.bool false) := bR
  have bE : Boxed W0 (w.heap.size + 3) 3 (.int .i64 s) := bE
  refine search (fun p => bits .and .i64 (cfAt T p) s != 0) (fun _ => .cells #[.bool true] 4 (0, 0)) (w.heap.size + 3) (w.heap.size + 2) s (by omega) rfl rfl (by omega) (by omega) bE.cell
    (fun x => { tmps := #[.agg c.toArray, .int .i64 s, .pointer (some ⟨w.heap.size, 0, none⟩), .pointer (some ⟨w.heap.size + 1, 0, none⟩), .pointer (some ⟨w.heap.size + 1 + 1, 0, none⟩), .int .i64 x, .int .i64 s, .func (.func 131) #[] #[.pointer (some ⟨w.heap.size + 1 + 1 + 1, 0, none⟩)], .int .i64 x, undef, undef, undef, undef, undef, undef, undef], defers := [] }) ?assign ?body ?done ?stop
  case assign =>
    intro l x W K hK
    gi_wp2
    exact hK
  case body =>
    intro l x W hx hB
    have hx8 := SetM.list_bd s x hx
    have cc := (BX.out.below hB).cf x hx8.1 hx8.2
    have cS := (Boxed.cell (show Boxed W (w.heap.size + 1) 3 (.int .i64 s) from (hB.block _ (by omega)).trans bS))
    have hne : Nonempty (Ph.S (Row.Old W)) := ⟨⟨0, W, Below.refl _ _⟩⟩
    obtain ⟨k, rfl⟩ := Int.eq_ofNat_of_zero_le hx8.1
    rw [Int.toNat_natCast] at cc
    have CC : ∀ p : Ph.S (Row.Old W), p.world.cell? ⟨w.heap.size, 105 + k, none⟩ = some (I (cfAt T k)) := fun p => (p.is.cell (World.block_lt_of_cell? W _ cc)).trans cc
    have CS : ∀ p : Ph.S (Row.Old W), p.world.cell? ⟨w.heap.size + 1, 0, none⟩ = some (.int .i64 s) := fun p => (p.is.cell (World.block_lt_of_cell? W _ cS)).trans cS
    have hk8 : k < 8 := by omega
    gi_wp2
    refine Up.region_ph (Row.Old W) [] (fun ⟨_, _, h⟩ => h) (by kernel_rfl) hmx (by kernel_rfl) (Row.Old.drew _) ?_
    iterate 7
      (refine Pw.calm rfl (fun K hK => ?_)
       go_simp
       refine hK _ ?_
       clear hK K)
    refine Pw.nil ?_
    intro W1 hb1
    have hv : Boxed W1 (w.heap.size + 1 + 1) 4 (.bool false) := (hb1.block _ (by have := hB.size; omega)).trans ((hB.block _ (by omega)).trans bR)
    have hc := hv.cell
    have hf := hv.frozen
    clear CC CS cc cS hne BX hB
    generalize hg : (bits BinOp.and IntKind.i64 (cfAt T k) s != 0) = r
    cases r with
    | true =>
      have HG := Lib.hid hg
      clear hg
      gi_wp2
      exact ⟨HG.out, grown_trans (grown_of_below hb1) (grownBy_setCell' _ _ _), hv.set (.bool true)⟩
    | false =>
      have HG := Lib.hid hg
      clear hg
      gi_wp2
      exact ⟨HG.out, hb1⟩
  case done =>
    intro D W hD hall hB hK
    have hv : Boxed W (w.heap.size + 1 + 1) 4 (.bool false) := (hB.block _ (by omega)).trans bR
    have hc := hv.cell
    have hf := hv.frozen
    have HR : Hid (clashC T s = false) := Lib.hid (by unfold clashC; rw [List.any_eq_false]; intro x hx; simpa using hall x hx)
    have HB : Hid (Below w.heap.size w W) := Lib.hid (E0.trans (hB.mono (by omega)))
    clear hB hall
    gi_wp2
    have hv2 := hv.set (.bool false)
    have hK' := (KeepsOthers.setCell W ⟨w.heap.size + 1 + 1, 0, none⟩ (.bool false)).same D _ hK rfl
    refine ⟨by simp, .inl ⟨_, _, rfl, run_takeDeferred hK', ?_⟩⟩
    have hc5 := cell_kept hv2.cell (grownBy_putObj' _ D (.deferred none)) (fun r e => by cases e; exact ⟨_, hK', rfl⟩)
    refine ⟨.bool false, ?_, by rw [HR.out], (HB.out.setCell (p := ⟨w.heap.size + 1 + 1, 0, none⟩) (by simp; try omega) _).trans (belowK_b (w := w) (Nat.le_refl _) _ D _ _ (by omega) hK' rfl rfl)⟩
    simp [results, Try.f119, go_sem, hc5]
  case stop =>
    intro D x W hD hf hx hg hR hK
    have HR : Hid (clashC T s = true) := Lib.hid (by unfold clashC; rw [List.any_eq_true]; exact ⟨x, List.mem_of_find?_eq_some hf, hx⟩)
    have hv : Boxed W (w.heap.size + 1 + 1) 4 (.bool true) := hR
    have HB : Hid (Below w.heap.size w W) := Lib.hid (E0.grown hg (by omega) (fun k e => by cases e; omega))
    clear hf hx hg
    gi_wp2
    refine ⟨by simp, .inl ⟨_, _, rfl, run_takeDeferred hK, ?_⟩⟩
    have hc5 := cell_kept hv.cell (grownBy_putObj' _ D (.deferred none)) (fun r e => by cases e; exact ⟨_, hK, rfl⟩)
    refine ⟨.bool true, ?_, by rw [HR.out], HB.out.trans (belowK_b (w := w) (Nat.le_refl _) W D _ _ (by omega) hK rfl rfl)⟩
    simp [results, Try.f119, go_sem, hc5]
end Go.Proofs.Ytfekngnfjemgeaa.ChkI
/- The contract of package check's badConflict. -/
namespace Go.Proofs.Ytfekngnfjemgeaa.ChkJ
open Go.RowKit Go.Shelf
open Tab PlaceM PlanM OnS ChkM Each Search ChkI
open May (infoT)
set_option linter.unusedVariables false
set_option linter.unusedSimpArgs false
attribute [local go_sem] Oper.semAt_some
/-- Three blocks laid one behind the other. -/
theorem laid3 (w : World) (o0 o1 o2 : Obj) : ∃ W, (((w.alloc o0).alloc o1).alloc o2) = W ∧ W.heap.size = w.heap.size + 3 ∧ Below w.heap.size w W ∧ Below (w.heap.size + 1) (w.alloc o0) W ∧ W.heap[w.heap.size + 1]? = some o1 ∧ W.heap[w.heap.size + 2]? = some o2 := by
  refine ⟨_, rfl, by simp, ((((Below.refl _ w).alloc (Nat.le_refl _) _).alloc (by simp) _).alloc (by simp; omega) _), ?_, ?_, ?_⟩
  · have := (((Below.refl (w.alloc o0).heap.size (w.alloc o0)).alloc (Nat.le_refl _) o1).alloc (by simp) o2)
    simpa using this
  · have h1 := heap_alloc_new (w.alloc o0) o1
    have h2 := Below.heap_alloc ((w.alloc o0).alloc o1) o2 (w.heap.size + 1) (by simp)
    rw [World.size_alloc] at h1
    exact h2.trans h1
  · have h1 := heap_alloc_new ((w.alloc o0).alloc o1) o2
    simp only [World.size_alloc] at h1
    exact h1
/-- What is bad of a phase q that is On, beside p. -/
def cbad (T : Tab) (p q : Int) : Bool := (SetM.has (cfAt T p) q != SetM.has (cfAt T q) p) || (SetM.has (cfAt T p) q && beside T p q)
theorem conf_self {T : Tab} {p : Int} (h : SetM.has (cfAt T p) p = true) : confBad T p = true := by unfold confBad; rw [h]; rfl
theorem conf_any {T : Tab} {p : Int} (h : SetM.has (cfAt T p) p = false) : confBad T p = (ons T).any (cbad T p) := by unfold confBad; rw [h]; rfl
set_option maxRecDepth 100000 in
set_option maxHeartbeats 4000000 in
theorem badConflict_any (T : Tab) (h : Hd) (k : Nat) (hk : k < 8) (w : World) (ht : IsTab w h T) :
    Calls Try.prog 81 #[.agg (T.cells h).toArray, .int .i64 k] w fun e w' => e = .returned (.bool (confBad T k)) ∧ Below w.heap.size w w' := by
  have hsz := (cells_ok ht).size
  have IA : Hid ((Try.prog.info? 32).map (·.size) = some (T.cells h).length) := Lib.hid (by rw [List.size_toArray] at hsz; rw [hsz]; exact infoT)
  have ON : Hid (∀ W, Below w.heap.size w W → Calls Try.prog 111 #[.agg (T.cells h).toArray] W fun e w' => e = .returned (.int .i64 (onS T : Nat)) ∧ Below W.heap.size W w') := Lib.hid (fun W hb => PlanO.pon_any T h W (ht.below hb))
  have BS : Hid (∀ (p q : Int) W, Below w.heap.size w W → Calls Try.prog 115 #[.agg (T.cells h).toArray, .int .i64 p, .int .i64 q] W fun e w' => e = .returned (.bool (beside T p q)) ∧ Below W.heap.size W w') := Lib.hid (fun p q W hb => PlanW.pbeside_any T h p q W (ht.below hb))
  have BX0 := Lib.hid (bxd_new ht)
  have LT0 := Lib.hid (Row.lies_new w (T.cells h).toArray 32)
  have hs1 : (w.alloc (.cells (T.cells h).toArray 32)).heap.size = w.heap.size + 1 := by simp
  clear ht
  generalize T.cells h = c at *
  refine (callsIn_wide (n := 3)).1 ?_
  refine callsIn_of_wp_marks Try.func81 rfl trivial ?_ rfl
  simp only [Try.ntmps81, List.size_toArray, List.length_cons, List.length_nil, Nat.reduceAdd, Nat.reduceSub, Array.replicate_succ, Array.replicate_zero, List.push_toArray, List.append_toArray, List.nil_append, List.cons_append]
  refine wpIn_wide.2 ?_
  go_upto_region 1 with fail
  obtain ⟨W1, hW1, E1, E0, EB, bS, bR⟩ := laid3 w (.cells c.toArray 32) (.cells #[.int .i64 k] 3) (.cells #[.bool false] 4)
  rw [hW1]
  have BX1 := Lib.hid (BX0.out.below (by rw [hs1]; exact EB))
  have LT1 := Lib.hid (LT0.out.below (by rw [hs1]; exact EB))
  have A0 := Lib.hid E0
  clear hW1 EB hs1 hsz BX0 LT0 E0
  have bS : Boxed W1 (w.heap.size + 1) 3 (.int .i64 k) := bS
  have bR : Boxed W1 (w.heap.size + 1 + 1) 4 (.bool false) := bR
  have cS := bS.cell
  have cc := BX1.out.cf k (by omega) (by omega)
  rw [Int.toNat_natCast] at cc
  have hne : Nonempty (Ph.S (Row.Old W1)) := ⟨⟨0, W1, Below.refl _ _⟩⟩
  have CC : ∀ p : Ph.S (Row.Old W1), p.world.cell? ⟨w.heap.size, 105 + k, none⟩ = some (I (cfAt T k)) := fun p => (p.is.cell (World.block_lt_of_cell? W1 _ cc)).trans cc
  have CS : ∀ p : Ph.S (Row.Old W1), p.world.cell? ⟨w.heap.size + 1, 0, none⟩ = some (.int .i64 k) := fun p => (p.is.cell (World.block_lt_of_cell? W1 _ cS)).trans cS
  refine Pw.region (Row.Old W1) [] hmx (by kernel_rfl) (Row.Old.drew _) ?_
  have hki : ((k : Nat) : Int) < 8 := by omega
  iterate 5
    (refine Pw.calm rfl (fun K hK => ?_)
     go_simp
     refine hK _ ?_
     clear hK K)
  (refine Pw.calm rfl (fun K hK => ?_)
   go_simp
   refine ⟨_, fun p => Row.Old.pure (SetP.has_any _ _ _), hK _ ?_⟩
   clear hK K)
  refine Pw.nil ?_
  intro W2 hb
  have B0 : Hid (Below w.heap.size w W2) := Lib.hid (A0.out.trans (hb.mono (by omega)))
  have bS2 : Boxed W2 (w.heap.size + 1) 3 (.int .i64 k) := (hb.block _ (by omega)).trans bS
  have bR2 : Boxed W2 (w.heap.size + 1 + 1) 4 (.bool false) := (hb.block _ (by omega)).trans bR
  have BX := Lib.hid (BX1.out.below hb)
  have LT := Lib.hid (LT1.out.below hb)
  have E2 : w.heap.size + 3 ≤ W2.heap.size := by have := hb.size; omega
  clear CC CS cc cS hne hb bS bR BX1 LT1 A0 E1
  cases hself : SetM.has (cfAt T k) k with
  | true =>
    have HR := Lib.hid (conf_self hself)
    clear hself
    have hc := bR2.cell
    have hf := bR2.frozen
    go_wp2
    have hv2 := bR2.set (.bool true)
    have hc5 := hv2.cell
    refine ⟨.bool true, ?_, by rw [HR.out], B0.out.setCell (p := ⟨w.heap.size + 1 + 1, 0, none⟩) (by simp; omega) _⟩
    simp [results, Try.f81, go_sem, hc5]
  | false =>
    have HR := Lib.hid (conf_any hself)
    clear hself
    go_wp2_with (refine Row.wpList_load_g 32 _ rfl (by first | rfl | go_simp) ⟨w.heap.size, 0, none⟩ rfl c _ LT.out Try.underlying32 rfl IA.out ?_)
    refine (ON.out _ B0.out).mono ?_
    rintro e W3 ⟨rfl, hb⟩
    go_wp2_with fail
    refine (callsIn_wide.1 (Each.each_in 3 _ _)).mono ?_
    rintro e w' ⟨rfl, rfl⟩
    go_wp2_with fail
    have hb4 : Below W2.heap.size W2 (W3.alloc (.cells #[.int .i64 (onS T : Nat)] 3)) := hb.alloc hb.size _
    have bE : Boxed (W3.alloc (.cells #[.int .i64 (onS T : Nat)] 3)) W3.heap.size 3 (.int .i64 (onS T : Nat)) := Boxed.new _ _ _
    have hsz3 : (W3.alloc (.cells #[.int .i64 (onS T : Nat)] 3)).heap.size = W3.heap.size + 1 := by simp
    have hs3 := hb.size
    generalize W3.alloc (.cells #[.int .i64 (onS T : Nat)] 3) = W4 at hb4 bE hsz3 ⊢
    have bS4 : Boxed W4 (w.heap.size + 1) 3 (.int .i64 k) := (hb4.block _ (by omega)).trans bS2
    have bR4 : Boxed W4 (w.heap.size + 1 + 1) 4 (.bool false) := (hb4.block _ (by omega)).trans bR2
    have BX4 := Lib.hid (BX.out.below hb4)
    have LT4 := Lib.hid (LT.out.below hb4)
    have C0 : Hid (Below w.heap.size w W4) := Lib.hid (B0.out.trans (hb4.mono B0.out.size))
    have E4 : w.heap.size + 3 < W4.heap.size := by omega
    clear hb hb4 bS2 bR2 BX LT B0 E2 hs3
    generalize W3.heap.size = be at *
    refine (wpIn_wide (n := 3)).1 ?_
    refine search (cbad T k) (fun _ => .cells #[.bool true] 4 (0, 0)) be (w.heap.size + 1 + 1) (onS T : Nat) (by omega) rfl rfl (by omega) (by omega) bE.cell
      (fun x => { tmps := #[.agg c.toArray, .int .i64 k, .pointer (some ⟨w.heap.size, 0, none⟩), .pointer (some ⟨w.heap.size + 1, 0, none⟩), .pointer (some ⟨w.heap.size + 1 + 1, 0, none⟩), .int .i64 x, undef, .int .i64 k, .pointer (some ⟨w.heap.size, 105, none⟩), .pointer (some ⟨w.heap.size, 105 + k, none⟩), I (cfAt T k), .int .i64 k, .bool false, .agg c.toArray, .int .i64 (onS T : Nat), .func (.func 131) #[] #[.pointer (some ⟨be, 0, none⟩)], .int .i64 x, undef, undef, undef, undef, undef, undef, undef, undef, undef, undef, undef, undef, undef, undef, undef, undef, undef, undef, undef, undef, undef, undef, undef], defers := [] }) ?assign ?body ?done ?stop
    case assign =>
      intro l x W K hK
      gi_wp2
      exact hK
    case body =>
      intro l x W hx hB
      have hx8 := SetM.list_bd _ x hx
      have BXW := BX4.out.below hB
      have cc := BXW.cf x hx8.1 hx8.2
      have ck := BXW.cf k (by omega) (by omega)
      rw [Int.toNat_natCast] at ck
      have cS := (Boxed.cell (show Boxed W (w.heap.size + 1) 3 (.int .i64 k) from (hB.block _ (by omega)).trans bS4))
      have LTW := Lib.hid (LT4.out.below hB)
      have BW : Hid (Below w.heap.size w W) := Lib.hid (C0.out.trans (hB.mono C0.out.size))
      have hvR : Boxed W (w.heap.size + 1 + 1) 4 (.bool false) := (hB.block _ (by omega)).trans bR4
      have HV := Lib.hid hvR
      obtain ⟨j, rfl⟩ := Int.eq_ofNat_of_zero_le hx8.1
      rw [Int.toNat_natCast] at cc
      have hj8 : ((j : Nat) : Int) < 8 := hx8.2
      have hjn : j < 8 := by omega
      have CB : Hid (cbad T k j = _) := Lib.hid (by unfold cbad; rfl)
      have CC : ∀ p : Ph.S (Row.Old W), p.world.cell? ⟨w.heap.size, 105 + j, none⟩ = some (I (cfAt T j)) := fun p => (p.is.cell (World.block_lt_of_cell? W _ cc)).trans cc
      have CS : ∀ p : Ph.S (Row.Old W), p.world.cell? ⟨w.heap.size + 1, 0, none⟩ = some (.int .i64 k) := fun p => (p.is.cell (World.block_lt_of_cell? W _ cS)).trans cS
      have CH := Lib.hid CC
      have CSH := Lib.hid CS
      have BSW : Hid (∀ p : Ph.S (Row.Old W), Calls Try.prog 115 #[.agg c.toArray, .int .i64 k, .int .i64 j] p.world fun e w' => e = .returned (.bool (beside T k j)) ∧ Below p.world.heap.size p.world w') := Lib.hid (fun p => BS.out k j _ (BW.out.trans (p.is.mono BW.out.size)))
      clear cc CC CS hB BXW bE bS4 bR4 hvR
      obtain ⟨a, ha⟩ : ∃ a, SetM.has (cfAt T k) j = a := ⟨_, rfl⟩
      obtain ⟨b, hb'⟩ : ∃ b, SetM.has (cfAt T j) k = b := ⟨_, rfl⟩
      gi_wp2_with (refine ⟨trivial, ?_⟩; gi_at_call 114; refine (CallsIn.inRound l (callsIn_wide.2 (SetP.has_any _ _ _))).mono ?_; rintro e w' ⟨rfl, rfl⟩; rw [ha])
      have hne : Nonempty (Ph.S (Row.Old W)) := ⟨⟨0, W, Below.refl _ _⟩⟩
      have CC := CH.out
      have CS := CSH.out
      refine Up.region_ph (Row.Old W) [] (fun ⟨_, _, h⟩ => h) (by kernel_rfl) hmx (by kernel_rfl) (Row.Old.drew _) ?_
      iterate 6
        (refine Pw.calm rfl (fun K hK => ?_)
         go_simp
         refine hK _ ?_
         clear hK K)
      (refine Pw.calm rfl (fun K hK => ?_)
       go_simp
       refine ⟨_, fun p => Row.Old.pure (SetP.has_any _ _ _), hK _ ?_⟩
       clear hK K)
      rw [hb']
      cases a with
      | false =>
        cases b with
        | false =>
          have HCB : Hid (cbad T k j = false) := Lib.hid (by rw [CB.out, ha, hb']; rfl)
          clear ha hb' CB
          iterate 4
            (refine Pw.calm rfl (fun K hK => ?_)
             go_simp
             refine hK _ ?_
             clear hK K)
          refine Pw.skips 4 (by kernel_rfl) ?_
          (try simp only [List.take_succ_cons, List.take_zero, List.drop_succ_cons, List.drop_zero, Pw.undefs])
          (try dsimp only [Act.put])
          (try simp only [List.setIfInBounds_toArray, List.set_cons_zero, List.set_cons_succ])
          iterate 2
            (refine Pw.calm rfl (fun K hK => ?_)
             go_simp
             refine hK _ ?_
             clear hK K)
          refine Pw.nil ?_
          intro Wz hbz
          have hv : Boxed Wz (w.heap.size + 1 + 1) 4 (.bool false) := (hbz.block _ HV.out.lt).trans HV.out
          have hc := hv.cell
          have hf := hv.frozen
          clear CC CS hne
          gi_wp2
          exact ⟨HCB.out, hbz⟩
        | true =>
          have HCB : Hid (cbad T k j = true) := Lib.hid (by rw [CB.out, ha, hb']; rfl)
          clear ha hb' CB
          iterate 2
            (refine Pw.calm rfl (fun K hK => ?_)
             go_simp
             refine hK _ ?_
             clear hK K)
          refine Pw.skips 7 (by kernel_rfl) ?_
          (try simp only [List.take_succ_cons, List.take_zero, List.drop_succ_cons, List.drop_zero, Pw.undefs])
          (try dsimp only [Act.put])
          (try simp only [List.setIfInBounds_toArray, List.set_cons_zero, List.set_cons_succ])
          iterate 1
            (refine Pw.calm rfl (fun K hK => ?_)
             go_simp
             refine hK _ ?_
             clear hK K)
          refine Pw.nil ?_
          intro Wz hbz
          have hv : Boxed Wz (w.heap.size + 1 + 1) 4 (.bool false) := (hbz.block _ HV.out.lt).trans HV.out
          have hc := hv.cell
          have hf := hv.frozen
          clear CC CS hne
          gi_wp2
          exact ⟨HCB.out, grown_trans (grown_of_below hbz) (grownBy_setCell' _ _ _), hv.set (.bool true)⟩
      | true =>
        cases b with
        | false =>
          have HCB : Hid (cbad T k j = true) := Lib.hid (by rw [CB.out, ha, hb']; rfl)
          clear ha hb' CB
          iterate 2
            (refine Pw.calm rfl (fun K hK => ?_)
             go_simp
             refine hK _ ?_
             clear hK K)
          refine Pw.skips 7 (by kernel_rfl) ?_
          (try simp only [List.take_succ_cons, List.take_zero, List.drop_succ_cons, List.drop_zero, Pw.undefs])
          (try dsimp only [Act.put])
          (try simp only [List.setIfInBounds_toArray, List.set_cons_zero, List.set_cons_succ])
          iterate 1
            (refine Pw.calm rfl (fun K hK => ?_)
             go_simp
             refine hK _ ?_
             clear hK K)
          refine Pw.nil ?_
          intro Wz hbz
          have hv : Boxed Wz (w.heap.size + 1 + 1) 4 (.bool false) := (hbz.block _ HV.out.lt).trans HV.out
          have hc := hv.cell
          have hf := hv.frozen
          clear CC CS hne
          gi_wp2
          exact ⟨HCB.out, grown_trans (grown_of_below hbz) (grownBy_setCell' _ _ _), hv.set (.bool true)⟩
        | true =>
          have HCB0 : Hid (cbad T k j = beside T k j) := Lib.hid (by rw [CB.out, ha, hb']; simp)
          clear ha hb' CB
          obtain ⟨bs, hbs⟩ : ∃ x, beside T k j = x := ⟨_, rfl⟩
          iterate 4
            (refine Pw.calm rfl (fun K hK => ?_)
             go_simp
             refine hK _ ?_
             clear hK K)
          refine Pw.load rfl (by rfl) 32 _ rfl ⟨w.heap.size, 0, none⟩ rfl c _ (fun p => LTW.out.below p.is) Try.underlying32 rfl IA.out ?_
          (try dsimp only [Act.put]); (try simp only [List.setIfInBounds_toArray, List.set_cons_zero, List.set_cons_succ])
          iterate 2
            (refine Pw.calm rfl (fun K hK => ?_)
             go_simp
             refine hK _ ?_
             clear hK K)
          (refine Pw.calm rfl (fun K hK => ?_)
           go_simp
           refine ⟨_, fun p => Row.Old.call (BSW.out p), hK _ ?_⟩
           clear hK K)
          rw [hbs]
          have HCB : Hid (cbad T k j = bs) := Lib.hid (HCB0.out.trans hbs)
          clear hbs HCB0
          cases bs with
          | true =>
            iterate 2
              (refine Pw.calm rfl (fun K hK => ?_)
               go_simp
               refine hK _ ?_
               clear hK K)
            refine Pw.nil ?_
            intro Wz hbz
            have hv : Boxed Wz (w.heap.size + 1 + 1) 4 (.bool false) := (hbz.block _ HV.out.lt).trans HV.out
            have hc := hv.cell
            have hf := hv.frozen
            clear CC CS hne
            gi_wp2
            exact ⟨HCB.out, grown_trans (grown_of_below hbz) (grownBy_setCell' _ _ _), hv.set (.bool true)⟩
          | false =>
            iterate 2
              (refine Pw.calm rfl (fun K hK => ?_)
               go_simp
               refine hK _ ?_
               clear hK K)
            refine Pw.nil ?_
            intro Wz hbz
            have hv : Boxed Wz (w.heap.size + 1 + 1) 4 (.bool false) := (hbz.block _ HV.out.lt).trans HV.out
            have hc := hv.cell
            have hf := hv.frozen
            clear CC CS hne
            gi_wp2
            exact ⟨HCB.out, hbz⟩
    case done =>
      intro D W hD hall hB hK
      have hv : Boxed W (w.heap.size + 1 + 1) 4 (.bool false) := (hB.block _ (by omega)).trans bR4
      have hc := hv.cell
      have hf := hv.frozen
      have HR2 : Hid (confBad T k = false) := Lib.hid (by rw [HR.out, List.any_eq_false]; intro x hx; simpa using hall x hx)
      have HB : Hid (Below w.heap.size w W) := Lib.hid (C0.out.trans (hB.mono C0.out.size))
      clear hB hall
      go_wp2
      have hv2 := hv.set (.bool false)
      have hK' := (KeepsOthers.setCell W ⟨w.heap.size + 1 + 1, 0, none⟩ (.bool false)).same D _ hK rfl
      refine ⟨by simp, .inl ⟨_, _, rfl, run_takeDeferred hK', ?_⟩⟩
      have hc5 := cell_kept hv2.cell (grownBy_putObj' _ D (.deferred none)) (fun r e => by cases e; exact ⟨_, hK', rfl⟩)
      refine ⟨.bool false, ?_, by rw [HR2.out], (HB.out.setCell (p := ⟨w.heap.size + 1 + 1, 0, none⟩) (by simp; omega) _).trans (belowK_b (w := w) (Nat.le_refl _) _ D _ _ (by omega) hK' rfl rfl)⟩
      simp [results, Try.f81, go_sem, hc5]
    case stop =>
      intro D x W hD hf hx hg hR hK
      have HR2 : Hid (confBad T k = true) := Lib.hid (by rw [HR.out, List.any_eq_true]; exact ⟨x, List.mem_of_find?_eq_some hf, hx⟩)
      have hv : Boxed W (w.heap.size + 1 + 1) 4 (.bool true) := hR
      have HB : Hid (Below w.heap.size w W) := Lib.hid (C0.out.grown hg (by omega) (fun k e => by cases e; omega))
      clear hf hx hg
      gi_wp2
      refine ⟨by simp, .inl ⟨_, _, rfl, run_takeDeferred hK, ?_⟩⟩
      have hc5 := cell_kept hv.cell (grownBy_putObj' _ D (.deferred none)) (fun r e => by cases e; exact ⟨_, hK, rfl⟩)
      refine ⟨.bool true, ?_, by rw [HR2.out], HB.out.trans (belowK_b (w := w) (Nat.le_refl _) W D _ _ (by omega) hK rfl rfl)⟩
      simp [results, Try.f81, go_sem, hc5]
end Go.Proofs.Ytfekngnfjemgeaa.ChkJ
