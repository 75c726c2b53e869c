/- 12 texts in one file, in build order. -/
import Derived.Test.YtjolhoilcibdfaaGreatRows
import Derived.Test.YtjolhoilcibdfaaGreatPart01
import Derived.WalkKit
import Derived.ProofKit
import Derived.IntWalk
import Derived.Lib.Hide
import Derived.LoopTactic
import Derived.Below
import Derived.Test.YtjolhoilcibdfaaGreatPart06
import Derived.Test.YtjolhoilcibdfaaGreatPart02
import Derived.Deep.Cut
import Derived.WalkMore
import Derived.Great.BuildSlice
import Derived.Test.YtjolhoilcibdfaaGreatPart08
import Derived.Test.YtjolhoilcibdfaaGreatPart04
import Derived.RangeFuncCalls
import Derived.OrdersIn
import Derived.TacticsIn
import Derived.RangeFuncNested
import Derived.RangeFuncBound
import Derived.RangeFuncLeaves
import Derived.RangeFuncBox
import Derived.Shelf.Abstract
import Derived.Shelf.RegionOpen
import Derived.OwnWalkIn
import Derived.TacticsInMore
import Derived.LoopNIn
import Derived.LoopIn
import Derived.Maps.AppendAt
import Derived.Test.YtjolhoilcibdfaaGreatPart03
import Derived.Laws.ResultCell
import Derived.Laws.Rows
import Derived.Test.YtjolhoilcibdfaaGreatPart05
set_option linter.unusedVariables false
set_option linter.unusedSimpArgs false
set_option linter.unusedSectionVars false
/- The contracts of package set's bit, Has, With and Of, at all integers and slices of integers (the part of XSet and XSetR that needs no iterator). -/
namespace Go.Proofs.YtjolhoilcibdfaaGreat.SetP
open Go.ChangeShapes Go.WideShapes Go.ChangeAt Go.RowKit
open Go.Proofs.YtjolhoilcibdfaaGreat
set_option linter.unusedVariables false

theorem ret_int {k : IntKind} {a b : Int} (h : a = b) : Ending.returned (.int k a) = .returned (.int k b) := by rw [h]
theorem ret_bool {a b : Bool} (h : a = b) : Ending.returned (.bool a) = .returned (.bool b) := by rw [h]

theorem eight {p : Int} (h : 0 ≤ p) (h' : p < 8) : p = 0 ∨ p = 1 ∨ p = 2 ∨ p = 3 ∨ p = 4 ∨ p = 5 ∨ p = 6 ∨ p = 7 := by omega

set_option maxHeartbeats 400000 in
theorem bit_any (p : Int) (w : World) : Calls Tryz.prog 123 #[.int .i64 p] w fun e w' => e = .returned (.int .i64 (SetM.bit p)) ∧ w = w' := by
  by_cases h1 : p < 0
  · have HB := Lib.hid (SetM.bit_out (p := p) (by omega))
    go_enter Tryz.func123, Tryz.ntmps123
    go_wp2
    go_ret
    exact ⟨ret_int (by rw [HB.out]; rfl), rfl⟩
  by_cases h2 : 8 ≤ p
  · have HB := Lib.hid (SetM.bit_out (p := p) (by omega))
    go_enter Tryz.func123, Tryz.ntmps123
    go_wp2
    go_ret
    exact ⟨ret_int (by rw [HB.out]; rfl), rfl⟩
  rcases eight (p := p) (by omega) (by omega) with rfl | rfl | rfl | rfl | rfl | rfl | rfl | rfl
  all_goals
    clear h1 h2
    go_enter Tryz.func123, Tryz.ntmps123
    go_wp2
    go_ret
    exact ⟨ret_int (by decide), rfl⟩


theorem ne_has (s p : Int) : (bits .and .i64 s (SetM.bit p) != 0) = SetM.has s p := by
  have h := SetM.has_and s p
  cases hb : SetM.has s p
  · rw [h.2 hb]; rfl
  · rw [bne_iff_ne]; intro e; rw [h.1 e] at hb; cases hb

set_option maxHeartbeats 400000 in
theorem has_any (s p : Int) (w : World) : Calls Tryz.prog 95 #[.int .i64 s, .int .i64 p] w fun e w' => e = .returned (.bool (SetM.has s p)) ∧ w = w' := by
  have HB := Lib.hid (ne_has s p)
  go_enter Tryz.func95, Tryz.ntmps95
  go_wp2_with (go_at_call 123; refine (bit_any _ _).mono ?_; rintro e w' ⟨rfl, rfl⟩)
  go_ret
  exact ⟨ret_bool HB.out, rfl⟩

set_option maxHeartbeats 400000 in
theorem with_any (s p : Int) (w : World) : Calls Tryz.prog 124 #[.int .i64 s, .int .i64 p] w fun e w' => e = .returned (.int .i64 (SetM.withN s p)) ∧ w = w' := by
  have HB := Lib.hid (SetM.with_bits s p)
  go_enter Tryz.func124, Tryz.ntmps124
  go_wp2_with (go_at_call 123; refine (bit_any _ _).mono ?_; rintro e w' ⟨rfl, rfl⟩)
  go_ret
  exact ⟨ret_int HB.out, rfl⟩

theorem with_take (l : List Int) (k : Nat) (h : k < l.length) : SetM.withN (SetM.of (l.take k) : Nat) (l.getD k 0) = SetM.of (l.take (k + 1)) := by
  rw [RefS.take_succ l k h, SetM.with_of]

set_option maxHeartbeats 400000 in
theorem of_any (a : Option Addr) (cap : Nat) (l : List Int) (w : World) (h : RefS.Row w a l) :
    Calls Tryz.prog 100 #[.slice a l.length cap] w fun e w' => e = .returned (.int .i64 (SetM.of l : Nat)) ∧ w = w' := by
  have h1 := h.1
  unfold maxLen at h1
  have Hr := Lib.hid h
  clear h
  go_enter Tryz.func100, Tryz.ntmps100
  go_wp2
  go_loop [3, 8] (fun t i => ∃ k : Nat, k ≤ l.length ∧ i = .int .i64 k ∧ t = .int .i64 (SetM.of (l.take k) : Nat)) (fun _ i => l.length - (intOf i).toNat)
  case atStart => exact ⟨0, Nat.zero_le _, rfl, rfl⟩
  case round =>
    obtain ⟨k, hk, rfl, rfl⟩ := hrel
    by_cases hlt : k < l.length
    · have HS := with_take l k hlt
      obtain ⟨x, rfl, hc⟩ := Hr.out.cells hlt
      have hcell := hc k hlt
      clear hc
      generalize l.getD k 0 = y at HS hcell
      have HS2 := Lib.hid HS
      clear HS
      go_wp2_with (go_at_call 124; refine (SetP.with_any _ _ _).mono ?_; rintro e w' ⟨rfl, rfl⟩)
      go_round
      case rel => exact ⟨k + 1, by omega, by go_num, by rw [HS2.out]⟩
      case measure => simp [intOf]; omega
    · go_wp2
      go_ret
      have : k = l.length := by omega
      subst this
      exact ⟨by rw [List.take_of_length_le (Nat.le_refl _)]; rfl, rfl⟩


end Go.Proofs.YtjolhoilcibdfaaGreat.SetP
/- The contracts of plan.Where and plan.Beside: what the document's own find. -/
namespace Go.Proofs.YtjolhoilcibdfaaGreat.PlanW
open Go.ChangeShapes Go.WideShapes Go.ChangeAt Go.RowKit
open Tab PlaceM PlanM
open May (ret_bool chain infoP infoG St)
open SetP (of_any has_any)
set_option linter.unusedVariables false
set_option linter.unusedSimpArgs false
theorem info2 : (Tryz.prog.info? 41).map (·.size) = some 2 := by kernel_rfl
theorem infoT : (Tryz.prog.info? 32).map (·.size) = some 131 := by kernel_rfl
theorem row_one (w : World) (p : Int) (t : TypeId) (b : Nat) (hb : w.heap.size = b) : RefS.Row (w.alloc (.cells #[.int .i64 p] t)) (some ⟨b, 0, none⟩) [p] := by
  subst hb
  refine ⟨by simp [maxLen], .inr ⟨_, rfl, fun i hi => ?_⟩⟩
  obtain rfl : i = 0 := by simpa using hi
  rw [RefS.add_zero, cell_of_row _ _ _ _ _ _ (heap_alloc_new w _)]
  rfl
theorem idx0 (v0 v1 : Value) (w : World) : Sem.run Tryz.prog (Instr.index 41 (.agg #[v0, v1]) (.int .i64 0)) w = .ok v0 w := by kernel_rfl
theorem idx1 (v0 v1 : Value) (w : World) : Sem.run Tryz.prog (Instr.index 41 (.agg #[v0, v1]) (.int .i64 1)) w = .ok v1 w := by kernel_rfl
theorem has_one (p q : Int) : SetM.has ((SetM.of [p] : Nat) : Int) q = (decide (0 ≤ p ∧ p < 8) && decide (q = p)) := by
  unfold SetM.has
  rw [SetM.low_nat _ (SetM.of_lt _), SetM.of_test]
  by_cases h0 : 0 ≤ q
  · obtain ⟨k, rfl⟩ := Int.eq_ofNat_of_zero_le h0
    simp only [Int.toNat_natCast, List.mem_singleton, h0, decide_true, Bool.true_and]
    rw [Bool.eq_iff_iff]
    simp only [Bool.and_eq_true, decide_eq_true_eq]
    omega
  · rw [decide_eq_false h0, Bool.false_and]
    symm
    rw [Bool.and_eq_false_iff, decide_eq_false_iff_not, decide_eq_false_iff_not]
    omega
theorem results_tmp4 {P : Program} {fn : Func} {t u v x : Tmp} (h : fn.results = #[.tmp t, .tmp u, .tmp v, .tmp x]) (tmps : Array Value) (w : World) :
    (results fn tmps).run P w = .ok (.tuple #[tmps.getD t undef, tmps.getD u undef, tmps.getD v undef, tmps.getD x undef]) w := by
  simp [results, h]
def wG : Option Spt → Int | some x => x.g | none => 0
def wK : Option Spt → Int | some x => x.k | none => 0
def wI : Option Spt → Int | some x => x.i | none => 0
/-- Nothing that is looked for before a place. -/
theorem where_none {T : Tab} {p : Int} (h : ∀ x ∈ spots T, x.p ≠ p) : where_ T p = none := find_none h
theorem where_some {T : Tab} {p : Int} {x : Spt} (hx : x ∈ spots T) (hp : x.p = p) (hn : ∀ y ∈ spots T, Lt y x → y.p ≠ p) : where_ T p = some x := by
  unfold where_ find
  exact find_hit (spots_sorted T) hx (by simpa using hp) (fun y hy hl => by simpa using hn y hy hl)
set_option maxRecDepth 100000 in
set_option maxHeartbeats 4000000 in
theorem pwhere_any (T : Tab) (h : Hd) (p : Int) (w : World) (ht : IsTab w h T) :
    Calls Tryz.prog 63 #[.agg (T.cells h).toArray, .int .i64 p] w fun e w' => e = .returned (.tuple #[I (wG (where_ T p)), I (wK (where_ T p)), I (wI (where_ T p)), .bool (where_ T p).isSome]) ∧ Below w.heap.size w w' := by
  obtain ⟨⟨ga, gcap⟩, sd, sr, sb⟩ := h
  have C := Lib.hid (cells_ok ht)
  generalize (T.cells ⟨⟨ga, gcap⟩, sd, sr, sb⟩).toArray = cs at C ⊢
  obtain ⟨gs, hgd, hgr⟩ := ht.groups
  have Hgr := Lib.hid hgr
  have Hgd := Lib.hid hgd
  have hsz := C.out.size
  have S0 := Lib.hid (St.box (cs := cs) ht)
  have Hgl := Lib.hid (show T.groups.length = gs.length by rw [← hgd, List.length_map])
  have Kg := hgr.1.len
  unfold maxLen at Kg
  have HS : Hid (∀ q, SetM.has ((SetM.of [p] : Nat) : Int) q = (decide (0 ≤ p ∧ p < 8) && decide (q = p))) := Lib.hid (has_one p)
  have WN : Hid ((∀ x ∈ spots T, x.p ≠ p) → where_ T p = none) := Lib.hid where_none
  have WS : Hid (∀ x, x ∈ spots T → x.p = p → (∀ y ∈ spots T, Lt y x → y.p ≠ p) → where_ T p = some x) := Lib.hid (fun x => where_some)
  generalize where_ T p = o at WN WS ⊢
  clear ht hgr hgd
  go_enter Tryz.func63, Tryz.ntmps63
  go_upto_region 1 with fail
  generalize w.alloc (.cells cs 32) = w1 at S0 ⊢
  clear hsz
  go_step3
  go_wp2_with fail
  have hb1 : Below w1.heap.size w1 (w1.alloc (.cells #[.int .i64 p] 3)) := (Below.refl _ _).alloc (Nat.le_refl _) _
  have hr := row_one w1 p 3 _ rfl
  have S2 := Lib.hid (S0.out.step hb1)
  have HR := Lib.hid hr
  clear hb1 hr S0
  generalize w1.alloc (.cells #[.int .i64 p] 3) = w2 at S2 HR ⊢
  refine (of_any _ _ [p] _ HR.out).mono ?_
  rintro e w' ⟨rfl, rfl⟩
  generalize ((SetM.of [p] : Nat) : Int) = s0 at HS ⊢
  clear HR
  have q104 := S2.out.cell C.out.g
  rw [Hgl.out] at q104
  have Q104 : Hid (w2.cell? ⟨w.heap.size, 104, none⟩ = some (.slice ga gs.length gcap)) := Lib.hid q104
  clear q104
  have q104 := Q104.out
  have LIFT : Hid (∀ W, Below w2.heap.size w2 W → ∀ (z : Addr) (c : Value), w2.cell? z = some c → W.cell? z = some c) := Lib.hid (fun W hb z c hc => (hb.cell (World.block_lt_of_cell? w2 _ hc)).trans hc)
  go_wp2_with fail
  go_step3
  go_wp2_with fail
  clear q104
  go_loopw [4, 5, 6, 7, 21] (fun a b c d g wr => ∃ q : Nat, q ≤ gs.length ∧ a = .int .i64 0 ∧ b = .int .i64 0 ∧ c = .int .i64 0 ∧ d = .bool false ∧ g = .int .i64 q ∧ (∀ x ∈ spots T, x.g < q → x.p ≠ p) ∧ Below w2.heap.size w2 wr) (fun _ _ _ _ g _ => gs.length - (intOf g).toNat)
  case atStart => exact ⟨0, by omega, rfl, rfl, rfl, rfl, rfl, (fun x _ h => by omega), Below.refl _ _⟩
  case round =>
    obtain ⟨q, hq, rfl, rfl, rfl, rfl, rfl, hall, hbel⟩ := hrel
    have HA := Lib.hid hall
    have HB := Lib.hid hbel
    clear hall hbel
    by_cases hlt : q < gs.length
    · have hv := List.getElem?_eq_getElem hlt
      generalize gs[q] = u at hv
      obtain ⟨x, hx, hc⟩ := (Hgr.out.1.below (S2.out.bel.trans (HB.out.mono S2.out.bel.size))).at hv
      have hok := (Hgr.out.2 u (List.mem_of_getElem? hv)).below (S2.out.bel.trans (HB.out.mono S2.out.bel.size))
      have HD : Hid (T.groups[q]? = some u.data) := Lib.hid (by rw [← Hgd.out, List.getElem?_map, hv]; rfl)
      obtain rfl : ga = some x := hx
      obtain ⟨l0, l1, ⟨a0, cap0⟩, ⟨a1, cap1⟩⟩ := u
      have HC : Hid (Lies wr (x.add (q * 2)) [.slice a0 l0.length cap0, .slice a1 l1.length cap1]) := Lib.hid hc
      have HO := Lib.hid hok
      clear hv hc hok
      have hwr := HB.out.size
      go_upto_region 5 with (first | (refine Row.wpList_load_g 41 _ rfl (by first | rfl | go_simp) (x.add (q * 2)) rfl [.slice a0 l0.length cap0, .slice a1 l1.length cap1] _ HC.out Tryz.underlying41 rfl info2 ?_) | (refine Row.wpList_store_new rfl 41 _ _ rfl wr #[.slice none 0 0, .slice none 0 0] #[.slice a0 l0.length cap0, .slice a1 l1.length cap1] rfl rfl rfl info2 rfl (by simp [Value.oneCell']) ?_))
      have hbn : Below w2.heap.size w2 (wr.alloc (.cells #[.slice a0 l0.length cap0, .slice a1 l1.length cap1] 41)) := HB.out.alloc hwr _
      have hbo : Below wr.heap.size wr (wr.alloc (.cells #[.slice a0 l0.length cap0, .slice a1 l1.length cap1] 41)) := (Below.refl _ _).alloc (Nat.le_refl _) _
      have hg := Row.lies_of_block (heap_alloc_new wr (.cells #[.slice a0 l0.length cap0, .slice a1 l1.length cap1] 41))
      have HL := Lib.hid hg
      have HO2 := Lib.hid (HO.out.below hbo)
      have HN := Lib.hid hbn
      clear hg hbn hbo HC HO
      generalize wr.alloc (.cells #[.slice a0 l0.length cap0, .slice a1 l1.length cap1] 41) = w4 at HL HO2 HN ⊢
      generalize wr.heap.size = b4 at HL ⊢
      go_wp2_with (first | (refine Row.wpList_load_g 41 _ rfl (by first | rfl | go_simp) ⟨b4, 0, none⟩ rfl [.slice a0 l0.length cap0, .slice a1 l1.length cap1] _ HL.out Tryz.underlying41 rfl info2 ?_))
      go_loopw [4, 5, 6, 7, 27] (fun a b c d k wk => ∃ r : Nat, r ≤ 2 ∧ a = .int .i64 0 ∧ b = .int .i64 0 ∧ c = .int .i64 0 ∧ d = .bool false ∧ k = .int .i64 r ∧ (∀ x ∈ spots T, x.g = q → x.k < r → x.p ≠ p) ∧ wk = w4) (fun _ _ _ _ k _ => 2 - (intOf k).toNat)
      case atStart => exact ⟨0, by omega, rfl, rfl, rfl, rfl, rfl, (fun x _ _ h => by omega), rfl⟩
      case round =>
        obtain ⟨r, hr, rfl, rfl, rfl, rfl, rfl, hall, rfl⟩ := hrel
        have HA2 := Lib.hid hall
        clear hall
        by_cases hr2 : r < 2
        · obtain ⟨l, a, cap, hidx, hrow, hring⟩ : ∃ (l : List Int) (a : Option Addr) (cap : Nat), (∀ W, Sem.run Tryz.prog (Instr.index 41 (.agg #[.slice a0 l0.length cap0, .slice a1 l1.length cap1]) (.int .i64 r)) W = .ok (.slice a l.length cap) W) ∧ IntRow wr ⟨a, cap⟩ l ∧ ringOf (l0, l1) r = l := by
            have : r = 0 ∨ r = 1 := by omega
            rcases this with rfl | rfl
            · exact ⟨l0, a0, cap0, fun W => idx0 _ _ W, HO2.out.1, rfl⟩
            · exact ⟨l1, a1, cap1, fun W => idx1 _ _ W, HO2.out.2, rfl⟩
          have HROW := Lib.hid hrow
          have HRING := Lib.hid hring
          have K := hrow.len
          unfold maxLen at K
          clear hrow hring
          go_wp2_with fail
          clear hidx
          go_loopw [4, 5, 6, 7, 33] (fun a0' b c d k wk => ∃ j : Nat, j ≤ l.length ∧ a0' = .int .i64 0 ∧ b = .int .i64 0 ∧ c = .int .i64 0 ∧ d = .bool false ∧ k = .int .i64 j ∧ (∀ i, i < j → SetM.has s0 (l.getD i 0) = false) ∧ wk = wr) (fun _ _ _ _ k _ => l.length - (intOf k).toNat)
          case atStart => exact ⟨0, by omega, rfl, rfl, rfl, rfl, rfl, (fun i h => by omega), rfl⟩
          case round =>
            obtain ⟨j, hj, rfl, rfl, rfl, rfl, rfl, hall, rfl⟩ := hrel
            have HA3 := Lib.hid hall
            clear hall
            by_cases hjl : j < l.length
            · have hv := List.getElem?_eq_getElem hjl
              generalize hz : l[j] = z at hv
              obtain ⟨y, hy, hp⟩ := IntRow.at HROW.out hv
              obtain rfl : a = some y := hy
              have HV := Lib.hid hv
              have hgd : l.getD j 0 = z := by rw [List.getD_eq_getElem?_getD, hv]; rfl
              have HGD := Lib.hid hgd
              clear hv hz hgd
              cases hh : SetM.has s0 z with
              | true =>
                have HF : Hid (o = some ⟨q, r, j, p⟩) := Lib.hid (by
                  have h1 := HS.out z
                  rw [hh] at h1
                  simp only [Eq.comm (a := true), Bool.and_eq_true, decide_eq_true_eq] at h1
                  obtain ⟨⟨p0, p8⟩, rfl⟩ := h1
                  refine WS.out _ (mem_spots.2 ⟨(l0, l1), HD.out, by rw [HRING.out]; exact HV.out, p0, p8⟩) rfl fun y hy hl => ?_
                  unfold Lt at hl
                  simp only at hl
                  rcases hl with hl | ⟨hl, hl2 | ⟨hl2, hl3⟩⟩
                  · exact HA.out y hy hl
                  · exact HA2.out y hy hl hl2
                  · intro e
                    obtain ⟨z, h2, h3, _⟩ := mem_spots.1 hy
                    rw [hl, HD.out] at h2
                    obtain rfl := Option.some.inj h2
                    have h4 : l[y.i]? = some y.p := by have := h3; rw [hl2] at this; rw [← HRING.out]; exact this
                    have h5 := HA3.out y.i hl3
                    rw [List.getD_eq_getElem?_getD, h4] at h5
                    have h6 := HS.out y.p
                    rw [show SetM.has s0 y.p = false from h5, e] at h6
                    simp [p0, p8] at h6)
                go_wp2_with (go_at_call 95; refine (has_any _ _ _).mono ?_; rintro e w' ⟨rfl, rfl⟩; rw [hh])
                (try rw [Exit.noGoto_ret])
                (try simp only [Exit.inBlock, Exit.then])
                refine bodyPost_ret (v := .tuple #[I q, I r, I j, .bool true]) ?_ rfl ⟨?_, ?_⟩
                · exact results_tmp4 (fn := Tryz.f63) (t := 4) (u := 5) (v := 6) (x := 7) rfl _ _
                · rw [HF.out]; rfl
                · exact S2.out.bel.trans (HN.out.mono S2.out.bel.size)
              | false =>
                go_wp2_with (go_at_call 95; refine (has_any _ _ _).mono ?_; rintro e w' ⟨rfl, rfl⟩; rw [hh])
                go_roundw
                case rel => exact ⟨j + 1, by omega, rfl, rfl, rfl, rfl, by go_num, (fun i hi => by
                  by_cases e : i = j
                  · subst e; rw [HGD.out]; exact hh
                  · exact HA3.out i (by omega)), trivial⟩
                case measure => simp [intOf]; omega
            · have HN : Hid (∀ x ∈ spots T, x.g = q → x.k < r + 1 → x.p ≠ p) := Lib.hid (fun y hy h1 h2 e => by
                by_cases h3 : y.k < r
                · exact HA2.out y hy h1 h3 e
                · obtain ⟨z, h4, h5, h6, h7⟩ := mem_spots.1 hy
                  rw [h1, HD.out] at h4
                  obtain rfl := Option.some.inj h4
                  have hk : y.k = r := by omega
                  have h8 : l[y.i]? = some y.p := by rw [hk] at h5; rw [← HRING.out]; exact h5
                  have h9 := HA3.out y.i (by have := (List.getElem?_eq_some_iff.1 h8).1; omega)
                  rw [List.getD_eq_getElem?_getD, h8] at h9
                  have h10 := HS.out y.p
                  rw [show SetM.has s0 y.p = false from h9, e] at h10
                  rw [e] at h6 h7
                  simp [h6, h7] at h10)
              go_wp2
              go_roundw
              case rel => exact ⟨r + 1, by omega, rfl, rfl, rfl, rfl, by go_num, HN.out, trivial⟩
              case measure => simp [intOf]; omega
        · have HN3 : Hid (∀ x ∈ spots T, x.g < q + 1 → x.p ≠ p) := Lib.hid (fun y hy h1 e => by
            by_cases h3 : y.g < q
            · exact HA.out y hy h3 e
            · obtain ⟨z, h4, h5, _⟩ := mem_spots.1 hy
              refine HA2.out y hy (by omega) ?_ e
              unfold ringOf at h5
              by_cases h6 : y.k = 0
              · omega
              · by_cases h7 : y.k = 1
                · omega
                · rw [if_neg h6, if_neg h7] at h5; simp at h5)
          go_wp2
          go_roundw
          case rel => exact ⟨q + 1, by omega, rfl, rfl, rfl, rfl, by go_num, HN3.out, HN.out⟩
          case measure => simp [intOf]; omega
    · have HF : Hid (o = none) := Lib.hid (WN.out (fun y hy => by
        refine HA.out y hy ?_
        obtain ⟨z, h4, _⟩ := mem_spots.1 hy
        have := (List.getElem?_eq_some_iff.1 h4).1
        rw [Hgl.out] at this
        omega))
      go_wp2
      (try rw [Exit.noGoto_ret])
      (try simp only [Exit.inBlock, Exit.then])
      refine bodyPost_ret (v := .tuple #[I 0, I 0, I 0, .bool false]) ?_ rfl ⟨?_, ?_⟩
      · exact results_tmp4 (fn := Tryz.f63) (t := 4) (u := 5) (v := 6) (x := 7) rfl _ _
      · rw [HF.out]; rfl
      · exact S2.out.bel.trans (HB.out.mono S2.out.bel.size)
set_option maxRecDepth 100000 in
set_option maxHeartbeats 4000000 in
theorem pbeside_raw (c : List Value) (p q g1 k1 i1 g2 k2 i2 : Int) (ok1 ok2 : Bool) (w : World) (hc : c.length = 131)
    (V1 : Hid (∀ W, Below w.heap.size w W → Calls Tryz.prog 63 #[.agg c.toArray, .int .i64 p] W fun e w' => e = .returned (.tuple #[I g1, I k1, I i1, .bool ok1]) ∧ Below W.heap.size W w'))
    (V2 : Hid (∀ W, Below w.heap.size w W → Calls Tryz.prog 63 #[.agg c.toArray, .int .i64 q] W fun e w' => e = .returned (.tuple #[I g2, I k2, I i2, .bool ok2]) ∧ Below W.heap.size W w')) :
    Calls Tryz.prog 112 #[.agg c.toArray, .int .i64 p, .int .i64 q] w fun e w' => e = .returned (.bool (ok1 && ok2 && g1 == g2 && k1 != k2)) ∧ Below w.heap.size w w' := by
  have hsz : c.toArray.size = 131 := by simpa using hc
  have IA : Hid ((Tryz.prog.info? 32).map (·.size) = some c.length) := Lib.hid (by rw [hc]; exact infoT)
  have A0 : Hid (Below w.heap.size w (w.alloc (.cells c.toArray 32))) := Lib.hid ((Below.refl _ _).alloc (Nat.le_refl _) _)
  have A1 : Hid (Lies (w.alloc (.cells c.toArray 32)) ⟨w.heap.size, 0, none⟩ c) := Lib.hid (Row.lies_new w _ _)
  generalize hr : (ok1 && ok2 && g1 == g2 && k1 != k2) = r
  have HR := Lib.hid hr
  clear hr hc
  go_enter Tryz.func112, Tryz.ntmps112
  go_upto_region 1 with fail
  generalize w.alloc (.cells c.toArray 32) = u at A0 A1 ⊢
  clear hsz
  go_wp2_with (refine Row.wpList_load_g 32 _ rfl (by first | rfl | go_simp) ⟨w.heap.size, 0, none⟩ rfl c _ A1.out Tryz.underlying32 rfl IA.out ?_)
  refine (V1.out _ A0.out).mono ?_
  rintro e u1 ⟨rfl, hb⟩
  have B0 : Hid (Below w.heap.size w u1) := Lib.hid (A0.out.trans (hb.mono A0.out.size))
  have B1 := Lib.hid (A1.out.below hb)
  clear hb A0 A1 V1
  go_wp2_with (refine Row.wpList_load_g 32 _ rfl (by first | rfl | go_simp) ⟨w.heap.size, 0, none⟩ rfl c _ B1.out Tryz.underlying32 rfl IA.out ?_)
  refine (V2.out _ B0.out).mono ?_
  rintro e u3 ⟨rfl, hb⟩
  have HF : Hid (Below w.heap.size w u3) := Lib.hid (B0.out.trans (hb.mono B0.out.size))
  clear hb B0 B1 V2 IA
  cases ok1
  · go_wp2
    go_ret
    exact ⟨ret_bool (by rw [← HR.out]; simp), HF.out⟩
  cases ok2
  · go_wp2
    go_ret
    exact ⟨ret_bool (by rw [← HR.out]; simp), HF.out⟩
  by_cases hg : g1 = g2
  · have e1 : (g1 == g2) = true := by simpa using hg
    have E1 := Lib.hid e1
    clear hg
    go_wp2
    go_ret
    exact ⟨ret_bool (by rw [← HR.out, E1.out]; simp), HF.out⟩
  · have e1 : (g1 == g2) = false := by simpa using hg
    have E1 := Lib.hid e1
    clear hg
    go_wp2
    go_ret
    exact ⟨ret_bool (by rw [← HR.out, E1.out]; simp), HF.out⟩
theorem pbeside_any (T : Tab) (h : Hd) (p q : Int) (w : World) (ht : IsTab w h T) :
    Calls Tryz.prog 112 #[.agg (T.cells h).toArray, .int .i64 p, .int .i64 q] w fun e w' => e = .returned (.bool (beside T p q)) ∧ Below w.heap.size w w' := by
  have hsz := (cells_ok ht).size
  rw [List.size_toArray] at hsz
  have V := fun r W (hb : Below w.heap.size w W) => pwhere_any T h r W (ht.below hb)
  have V1 := V p
  have V2 := V q
  have hB : beside T p q = match where_ T p, where_ T q with
    | some a, some b => a.g == b.g && a.k != b.k
    | _, _ => false := rfl
  rw [hB]
  generalize where_ T p = o1 at V1 ⊢
  generalize where_ T q = o2 at V2 ⊢
  have e0 : ∀ a b : Nat, ((a : Int) == (b : Int)) = (a == b) := fun a b => by
    by_cases h : a = b
    · subst h; simp
    · rw [beq_eq_false_iff_ne.2 h, beq_eq_false_iff_ne.2 (by omega)]
  have e1 : ∀ a b : Nat, ((a : Int) != (b : Int)) = (a != b) := fun a b => by unfold bne; rw [e0]
  cases o1 with
  | none =>
    cases o2 with
    | none => exact pbeside_raw _ p q 0 0 0 0 0 0 false false w hsz (Lib.hid V1) (Lib.hid V2)
    | some b => exact pbeside_raw _ p q 0 0 0 b.g b.k b.i false true w hsz (Lib.hid V1) (Lib.hid V2)
  | some a =>
    cases o2 with
    | none => exact pbeside_raw _ p q a.g a.k a.i 0 0 0 true false w hsz (Lib.hid V1) (Lib.hid V2)
    | some b =>
      have := pbeside_raw _ p q a.g a.k a.i b.g b.k b.i true true w hsz (Lib.hid V1) (Lib.hid V2)
      rw [e0, e1] at this
      simpa using this
end Go.Proofs.YtjolhoilcibdfaaGreat.PlanW
/- What package check and the document ask of a table is one: plain mathematics. No program in it. -/
namespace Go.Proofs.YtjolhoilcibdfaaGreat.ChkX
open Go Tab PlaceM PlanM OnS May ChkM
set_option linter.unusedVariables false
set_option linter.unusedSimpArgs false
/-! ### sets -/
theorem low_in {a : Int} (h : 0 ≤ a ∧ a ≤ 255) : ((SetM.low a : Nat) : Int) = a := by unfold SetM.low; omega
theorem has_bits {a q : Int} : SetM.has a q = true ↔ 0 ≤ q ∧ q < 8 ∧ (SetM.low a).testBit q.toNat = true := by
  unfold SetM.has
  rw [Bool.and_eq_true, decide_eq_true_eq]
  constructor
  · rintro ⟨h1, h2⟩
    refine ⟨h1, ?_, h2⟩
    by_cases h8 : q < 8
    · exact h8
    · rw [SetM.test_high _ _ (SetM.low_lt a) (by omega)] at h2; cases h2
  · rintro ⟨h1, _, h2⟩; exact ⟨h1, h2⟩
theorem low_ne {m : Nat} (hm : m < 256) : m ≠ 0 ↔ ∃ q : Int, SetM.has (m : Int) q = true := by
  constructor
  · intro h
    refine Classical.byContradiction fun hn => h ?_
    refine Nat.eq_of_testBit_eq fun k => ?_
    rw [Nat.zero_testBit]
    cases ht : m.testBit k with
    | false => rfl
    | true =>
      exfalso
      refine hn ⟨(k : Int), has_bits.2 ⟨by omega, ?_, ?_⟩⟩
      · by_cases h8 : k < 8
        · omega
        · rw [SetM.test_high _ _ hm (by omega)] at ht; cases ht
      · rw [SetM.low_nat _ hm, Int.toNat_natCast]; exact ht
  · rintro ⟨q, hq⟩ rfl
    have := (has_bits.1 hq).2.2
    rw [SetM.low_nat _ hm, Nat.zero_testBit] at this
    cases this
theorem and_ne {a b : Int} (hb : 0 ≤ b ∧ b ≤ 255) : bits .and .i64 a b ≠ 0 ↔ ∃ q : Int, SetM.has a q = true ∧ SetM.has b q = true := by
  have e : bits .and .i64 a b = ((SetM.low a &&& SetM.low b : Nat) : Int) := by
    have := SetM.and_low a (SetM.low b) (SetM.low_lt b)
    rwa [low_in hb] at this
  have hlt : SetM.low a &&& SetM.low b < 256 := Nat.lt_of_le_of_lt Nat.and_le_left (SetM.low_lt a)
  rw [e]
  have : ((SetM.low a &&& SetM.low b : Nat) : Int) ≠ 0 ↔ (SetM.low a &&& SetM.low b) ≠ 0 := by omega
  rw [this, low_ne hlt]
  constructor
  · rintro ⟨q, hq⟩
    obtain ⟨h1, h2, h3⟩ := has_bits.1 hq
    rw [SetM.low_nat _ hlt, Nat.testBit_and, Bool.and_eq_true] at h3
    exact ⟨q, has_bits.2 ⟨h1, h2, h3.1⟩, has_bits.2 ⟨h1, h2, h3.2⟩⟩
  · rintro ⟨q, h1, h2⟩
    obtain ⟨h3, h4, h5⟩ := has_bits.1 h1
    obtain ⟨_, _, h6⟩ := has_bits.1 h2
    refine ⟨q, has_bits.2 ⟨h3, h4, ?_⟩⟩
    rw [SetM.low_nat _ hlt, Nat.testBit_and, h5, h6]; rfl
theorem andNot_eq {a : Int} (ha : 0 ≤ a ∧ a ≤ 255) {m : Nat} (hm : m < 256) : bits .andNot .i64 a (m : Int) = ((SetM.low a &&& (255 - m) : Nat) : Int) := by
  obtain ⟨k, rfl⟩ := Int.eq_ofNat_of_zero_le ha.1
  have hk : k < 256 := by omega
  have h1 := SetM.andNot_low (k : Int) m hm
  have e : bits .andNot .i64 (k : Int) (m : Int) = IntKind.i64.wrap (((BitVec.ofInt 64 (k : Int) &&& ~~~ BitVec.ofInt 64 (m : Int)).toNat : Nat) : Int) := rfl
  have hlt : (BitVec.ofInt 64 (k : Int) &&& ~~~ BitVec.ofInt 64 (m : Int)).toNat < 256 := by
    rw [BitVec.toNat_and, SetM.toNat_ofNat k hk]
    exact Nat.lt_of_le_of_lt Nat.and_le_left hk
  rw [e, SetM.wrap_small _ hlt] at h1 ⊢
  rw [← h1, SetM.low_nat _ hlt]
theorem not_bit {m k : Nat} (hm : m < 256) (hk : k < 8) : (255 - m).testBit k = !m.testBit k := by
  have : ∀ m : Fin 256, ∀ k : Fin 8, (255 - m.val).testBit k.val = !m.val.testBit k.val := by decide +kernel
  exact this ⟨m, hm⟩ ⟨k, hk⟩
theorem andNot_zero {a : Int} (ha : 0 ≤ a ∧ a ≤ 255) {m : Nat} (hm : m < 256) : bits .andNot .i64 a (m : Int) = 0 ↔ ∀ q, SetM.has a q = true → SetM.has (m : Int) q = true := by
  rw [andNot_eq ha hm]
  have hlt : SetM.low a &&& (255 - m) < 256 := Nat.lt_of_le_of_lt Nat.and_le_left (SetM.low_lt a)
  have h0 : ((SetM.low a &&& (255 - m) : Nat) : Int) = 0 ↔ ¬ (SetM.low a &&& (255 - m)) ≠ 0 := by omega
  rw [h0, low_ne hlt]
  constructor
  · intro h q hq
    obtain ⟨h1, h2, h3⟩ := has_bits.1 hq
    refine Classical.byContradiction fun hn => h ⟨q, has_bits.2 ⟨h1, h2, ?_⟩⟩
    rw [SetM.low_nat _ hlt, Nat.testBit_and, h3, not_bit hm (by omega), Bool.true_and]
    cases ht : m.testBit q.toNat with
    | false => rfl
    | true => exact absurd (has_bits.2 ⟨h1, h2, by rw [SetM.low_nat _ hm]; exact ht⟩) hn
  · rintro h ⟨q, hq⟩
    obtain ⟨h1, h2, h3⟩ := has_bits.1 hq
    rw [SetM.low_nat _ hlt, Nat.testBit_and, not_bit hm (by omega), Bool.and_eq_true] at h3
    have h4 := (has_bits.1 (h q (has_bits.2 ⟨h1, h2, h3.1⟩))).2.2
    rw [SetM.low_nat _ hm] at h4
    rw [h4] at h3
    cases h3.2
theorem allOn_iff {T : Tab} {s : Int} (hs : 0 ≤ s ∧ s ≤ 255) : allOn T s = true ↔ ∀ q, SetM.has s q = true → SetM.has (onS T : Nat) q = true := by
  unfold allOn
  rw [beq_iff_eq, andNot_zero hs (show onS T < 256 from SetM.of_lt _)]
theorem inR_eq {T : Tab} {s : Int} (hs : 0 ≤ s ∧ s ≤ 255) : inR s (onS T : Nat) = allOn T s := by
  unfold inR allOn
  rw [SetM.and_255, andNot_eq hs (show onS T < 256 from SetM.of_lt _), SetM.low_nat _ (Nat.lt_of_le_of_lt Nat.and_le_left (SetM.low_lt s))]
theorem has_of {l : List Int} {q : Int} : SetM.has ((SetM.of l : Nat) : Int) q = true ↔ 0 ≤ q ∧ q < 8 ∧ q ∈ l := by
  rw [has_bits, SetM.low_nat _ (SetM.of_lt _), SetM.of_test, decide_eq_true_eq]
  constructor
  · rintro ⟨h1, h2, h3, _⟩; exact ⟨h1, h2, by rwa [Int.toNat_of_nonneg h1] at h3⟩
  · rintro ⟨h1, h2, h3⟩; exact ⟨h1, h2, by rwa [Int.toNat_of_nonneg h1], by omega⟩
theorem mem_onTo {x : Int} : ∀ {i : Nat} {l : List Ph}, x ∈ onTo i l ↔ ∃ j u, l[j]? = some u ∧ u.on = true ∧ x = ((i + j : Nat) : Int)
  | i, [] => by simp [onTo]
  | i, p :: l => by
    rw [onTo, List.mem_append, mem_onTo (i := i + 1) (l := l)]
    constructor
    · rintro (h | ⟨j, u, h1, h2, h3⟩)
      · by_cases hp : p.on
        · rw [if_pos hp] at h
          exact ⟨0, p, rfl, hp, by simpa using h⟩
        · rw [if_neg hp] at h; cases h
      · exact ⟨j + 1, u, by simpa using h1, h2, by rw [h3]; congr 1; omega⟩
    · rintro ⟨j, u, h1, h2, h3⟩
      cases j with
      | zero =>
        obtain rfl : p = u := by simpa using h1
        exact .inl (by rw [if_pos h2]; simpa using h3)
      | succ j => exact .inr ⟨j, u, by simpa using h1, h2, by rw [h3]; congr 1; omega⟩
theorem has_on {T : Tab} (h8 : T.phases.length = 8) {p : Int} (h0 : 0 ≤ p) (hp : p < 8) : SetM.has (onS T : Nat) p = (phAt T p).on := by
  obtain ⟨k, rfl⟩ := Int.eq_ofNat_of_zero_le h0
  have hk : k < T.phases.length := by omega
  have e : phAt T k = T.phases[k] := by unfold phAt; rw [Int.toNat_natCast, List.getD_eq_getElem?_getD, List.getElem?_eq_getElem hk]; rfl
  rw [Bool.eq_iff_iff]
  unfold onS onL
  rw [has_of, mem_onTo, e]
  constructor
  · rintro ⟨_, _, j, u, h1, h2, h3⟩
    obtain rfl : k = j := by omega
    rw [List.getElem?_eq_getElem hk] at h1
    obtain rfl := Option.some.inj h1
    exact h2
  · intro h
    exact ⟨h0, hp, k, _, List.getElem?_eq_getElem hk, h, by simp⟩
theorem allIn_iff {m : Int} {l : List Int} : allIn m l = true ↔ ∀ x ∈ l, 0 ≤ x ∧ x ≤ m := by
  unfold allIn inB
  rw [List.all_eq_true]
  constructor
  · intro h x hx; have := h x hx; simpa using this
  · intro h x hx; have := h x hx; simpa using this
/-- What May gives. -/
structure InR (T : Tab) : Prop where
  ph : ∀ u ∈ T.phases, Ph.may u = true
  gr : ∀ g ∈ T.groups, groupMay g = true
  cf : ∀ x ∈ T.conflict, 0 ≤ x ∧ x ≤ 255
  dt : ∀ d ∈ T.dets, Det.may d = true
  rl : ∀ r ∈ T.rails, Rl.may r = true
  bs : ∀ b ∈ T.buses, Bs.may b = true
theorem in_ranges {T : Tab} (h : tabMay T = true) : InR T := by
  unfold tabMay listMay at h
  simp only [Bool.and_eq_true, List.all_eq_true] at h
  obtain ⟨⟨_, h1⟩, ⟨_, h2⟩, h3, ⟨_, h4⟩, ⟨_, h5⟩, ⟨_, h6⟩, _⟩ := h
  exact ⟨h1, h2, allIn_iff.1 h3, h4, h5, h6⟩
/-! ### rules 2, 4, 5, 8 -/
theorem lt_dec (a b : Int) : decide (a < b) = !decide (b ≤ a) := by rw [Bool.eq_iff_iff]; simp
theorem ph_eq {u : Ph} (h : Ph.may u = true) : phOk u = !phBad u := by
  unfold Ph.may at h
  rw [Bool.and_eq_true, allIn_iff, allIn_iff] at h
  have hw := h.1 u.walk (by simp)
  have hb := h.1 u.blinks (by simp)
  obtain ⟨on, min, gap, max, top, step, yellow, red, walk, blinks, recall, lock, rest⟩ := u
  clear h
  unfold phOk phBad
  simp only at *
  have e0 : (walk == 0) = !decide (0 < walk) := by rw [Bool.eq_iff_iff]; simp; omega
  have e1 : (blinks == 0) = !decide (0 < blinks) := by rw [Bool.eq_iff_iff]; simp; omega
  rw [e0, e1, lt_dec min 1, lt_dec yellow 10, lt_dec max min, lt_dec top max, lt_dec step 1]
  have e2 : (recall != 3) = !(recall == 3) := rfl
  rw [e2]
  generalize decide (0 < walk) = b0
  generalize decide (0 < blinks) = b1
  generalize decide (1 ≤ min) = b2
  generalize decide (10 ≤ yellow) = b3
  generalize decide (min ≤ max) = b4
  generalize decide (1 ≤ step) = b5
  generalize (recall == 3) = b6
  by_cases h4 : max ≤ top
  · have e3 : (top == max) = !decide (max < top) := by rw [Bool.eq_iff_iff]; simp; omega
    rw [e3, decide_eq_true h4]
    generalize decide (max < top) = b7
    revert b0 b1 b2 b3 b4 b5 b6 b7
    decide
  · rw [decide_eq_false h4]
    generalize decide (max < top) = b7
    generalize (top == max) = b8
    revert b0 b1 b2 b3 b4 b5 b6 b7 b8
    decide
theorem ph_at {T : Tab} (h : InR T) (h8 : T.phases.length = 8) {p : Int} (h0 : 0 ≤ p) (hp : p < 8) : Ph.may (phAt T p) = true := by
  refine h.ph _ ?_
  unfold phAt
  rw [List.getD_eq_getElem?_getD, List.getElem?_eq_getElem (show p.toNat < T.phases.length by omega)]
  exact List.getElem_mem _
theorem conf_eq {T : Tab} {p : Int} (hp : p ∈ ons T) : confOk T p = !confBad T p := by
  unfold confOk
  congr 1
  rw [Bool.eq_iff_iff]
  unfold confBad
  rw [List.any_eq_true, Bool.or_eq_true, List.any_eq_true]
  constructor
  · rintro ⟨q, hq, h⟩
    unfold confR at h
    rw [Bool.or_eq_true, Bool.and_eq_true, beq_iff_eq] at h
    rcases h with ⟨h1, rfl⟩ | h
    · exact .inl h1
    · exact .inr ⟨q, hq, h⟩
  · rintro (h | ⟨q, hq, h⟩)
    · exact ⟨p, hp, by unfold confR; rw [h]; simp⟩
    · refine ⟨q, hq, ?_⟩
      unfold confR
      rw [h]; simp
theorem det_eq {T : Tab} (h8 : T.phases.length = 8) {d : Det} (h0 : 0 ≤ d.phase) (hp : d.phase < 8) : detBad T d = detR T d := by
  unfold detBad detR; rw [has_on h8 h0 hp]
theorem mem_yel {T : Tab} {q : Int} : SetM.has (yellows T : Nat) q = true ↔ q ∈ ons T ∧ flAt T q = 2 := by
  unfold yellows
  rw [has_of, List.mem_filter]
  unfold yel
  rw [beq_iff_eq]
  constructor
  · rintro ⟨_, _, h⟩; exact h
  · intro h; have := SetM.list_bd _ _ h.1; exact ⟨this.1, this.2, h⟩
theorem flash_eq {T : Tab} {p : Int} : flashOk T p = !flashBad T p := by
  have hy : 0 ≤ ((yellows T : Nat) : Int) ∧ ((yellows T : Nat) : Int) ≤ 255 := by have : yellows T < 256 := SetM.of_lt _; omega
  have e : (bits .and .i64 (cfAt T p) (yellows T : Nat) != 0) = (ons T).any fun q => flAt T q == 2 && SetM.has (cfAt T p) q := by
    rw [Bool.eq_iff_iff, bne_iff_ne, and_ne hy, List.any_eq_true]
    constructor
    · rintro ⟨q, h1, h2⟩; obtain ⟨h3, h4⟩ := mem_yel.1 h2; exact ⟨q, h3, by rw [h4, h1]; rfl⟩
    · rintro ⟨q, h1, h2⟩
      rw [Bool.and_eq_true, beq_iff_eq] at h2
      exact ⟨q, h2.2, mem_yel.2 ⟨h1, h2.1⟩⟩
  unfold flashOk flashBad
  rw [e]
  unfold flashR
  by_cases h0 : flAt T p = 0
  · rw [h0]; rfl
  by_cases h2 : flAt T p = 2
  · rw [h2]; simp
  · have e2 : (flAt T p == 2) = false := beq_eq_false_iff_ne.2 h2
    have e0 : (flAt T p == 0) = false := beq_eq_false_iff_ne.2 h0
    have e1 : (flAt T p != 0) = true := bne_iff_ne.2 h0
    rw [e0, e1]
    simp only [e2, Bool.false_and]
    simp
/-! ### rules 6 and 7 -/
theorem bus_eq {T : Tab} {b : Bs} (h : Bs.may b = true) : busBad T b = busR T b := by
  unfold Bs.may at h
  rw [Bool.and_eq_true, allIn_iff] at h
  unfold busBad busR
  rw [inR_eq (h.1 b.set (by simp))]
theorem clash_eq {T : Tab} (h : InR T) (hc : T.conflict.length = 8) {s : Int} (hs : 0 ≤ s ∧ s ≤ 255) : clashC T s = clashR T s s := by
  rw [Bool.eq_iff_iff]
  unfold clashC clashR
  rw [List.any_eq_true, List.any_eq_true]
  constructor
  · rintro ⟨p, hp, h1⟩
    rw [bne_iff_ne, and_ne hs] at h1
    obtain ⟨q, h2, h3⟩ := h1
    exact ⟨p, hp, List.any_eq_true.2 ⟨q, (SetM.mem_list _ _).2 h3, by rw [h2]; rfl⟩⟩
  · rintro ⟨p, hp, h1⟩
    obtain ⟨q, hq, h2⟩ := List.any_eq_true.1 h1
    rw [Bool.or_eq_true] at h2
    rcases h2 with h2 | h2
    · exact ⟨p, hp, bne_iff_ne.2 ((and_ne hs).2 ⟨q, h2, (SetM.mem_list _ _).1 hq⟩)⟩
    · exact ⟨q, hq, bne_iff_ne.2 ((and_ne hs).2 ⟨p, h2, (SetM.mem_list _ _).1 hp⟩)⟩
theorem beside_symm (T : Tab) (p q : Int) : beside T p q = beside T q p := by
  unfold beside
  cases where_ T p with
  | none => cases where_ T q <;> rfl
  | some a =>
    cases where_ T q with
    | none => rfl
    | some b =>
      show (a.g == b.g && a.k != b.k) = (b.g == a.g && b.k != a.k)
      rw [Bool.beq_comm, bne_comm]
theorem list_nodup (s : Int) : (SetM.list s).Nodup := by
  unfold SetM.list SetM.upto List.Nodup
  rw [List.pairwise_map]
  exact (List.nodup_range.sublist List.filter_sublist).imp (fun h e => h (Int.ofNat.inj e))
theorem abreast_eq {T : Tab} {s : Int} : abreast T s = pairs T (SetM.list s) := by
  have hn := list_nodup s
  have hm : ∀ p q, q ∈ SetM.list (SetM.withoutN s p : Nat) ↔ q ∈ SetM.list s ∧ q ≠ p := by
    intro p q
    rw [SetM.mem_list, SetM.mem_list, SetM.has_without, Bool.and_eq_true]
    simp
  rw [Bool.eq_iff_iff]
  unfold abreast pairs
  simp only [List.all_eq_true, List.mem_range, hm]
  generalize SetM.list s = L at *
  constructor
  · intro h i hi k hk
    have e1 : L.getD i 0 = L[i] := by rw [List.getD_eq_getElem?_getD, List.getElem?_eq_getElem hi]; rfl
    have e2 : L.getD k 0 = L[k]'(by omega) := by rw [List.getD_eq_getElem?_getD, List.getElem?_eq_getElem (by omega)]; rfl
    rw [e1, e2]
    refine h _ (List.getElem_mem _) _ ⟨List.getElem_mem _, fun e => ?_⟩
    have := List.pairwise_iff_getElem.1 hn k i (by omega) hi hk
    exact this e
  · rintro h p hp q ⟨hq, hne⟩
    obtain ⟨i, hi, rfl⟩ := List.getElem_of_mem hp
    obtain ⟨k, hk, rfl⟩ := List.getElem_of_mem hq
    have e : ∀ (j : Nat) (hj : j < L.length), L.getD j 0 = L[j] := fun j hj => by rw [List.getD_eq_getElem?_getD, List.getElem?_eq_getElem hj]; rfl
    rcases Nat.lt_trichotomy k i with h1 | h1 | h1
    · have := h i hi k h1; rwa [e i hi, e k hk] at this
    · subst h1; exact absurd rfl hne
    · have := h k hk i h1; rw [e i hi, e k hk] at this; rw [beside_symm]; exact this
theorem or_in {a b : Int} (ha : 0 ≤ a ∧ a ≤ 255) (hb : 0 ≤ b ∧ b ≤ 255) : 0 ≤ bits .or .i64 a b ∧ bits .or .i64 a b ≤ 255 := by
  obtain ⟨m, rfl⟩ := Int.eq_ofNat_of_zero_le ha.1
  obtain ⟨n, rfl⟩ := Int.eq_ofNat_of_zero_le hb.1
  rw [RefS.or_small m n (by omega) (by omega)]
  have := Nat.or_lt_two_pow (n := 8) (show m < 2 ^ 8 by omega) (show n < 2 ^ 8 by omega)
  omega
theorem exit_eq {T : Tab} {s : Int} (hs : 0 ≤ s ∧ s ≤ 255) : exitR T s = (s != 0 && abreast T s) := by
  unfold exitR
  rw [abreast_eq, Bool.and_comm]
  congr 1
  rw [Bool.eq_iff_iff, decide_eq_true_eq, bne_iff_ne, List.length_pos_iff_exists_mem]
  have := low_ne (SetM.low_lt s)
  rw [low_in hs] at this
  constructor
  · rintro ⟨q, hq⟩ rfl
    rw [SetM.mem_list] at hq
    exact (this.2 ⟨q, hq⟩) rfl
  · intro h
    obtain ⟨q, hq⟩ := this.1 (fun e => h (by rw [← low_in hs, e]; rfl))
    exact ⟨q, (SetM.mem_list _ _).2 hq⟩
theorem rail_eq {T : Tab} (h : InR T) (hc : T.conflict.length = 8) {r : Rl} (hr : Rl.may r = true) : railOk T r = !railBad T r := by
  unfold Rl.may at hr
  rw [Bool.and_eq_true, Bool.and_eq_true, allIn_iff, allIn_iff, allIn_iff] at hr
  obtain ⟨h1, h2, h3⟩ := hr
  have hb := h1 r.bars (by simp)
  have hcl := h1 r.clear (by simp)
  have hd := h1 r.dwell (by simp)
  have he := h1 r.exit (by simp)
  have hho := h2 r.hold (by simp)
  have hmo := h2 r.most (by simp)
  have ho : 0 ≤ or4 r ∧ or4 r ≤ 255 := or_in (or_in (or_in hb hcl) hd) he
  unfold railOk railBad timesBad
  rw [inR_eq ho, ← clash_eq h hc hcl, ← clash_eq h hc hd, ← clash_eq h hc he, exit_eq he]
  generalize allOn T (or4 r) = a
  generalize clashC T r.clear = c1
  generalize clashC T r.dwell = c2
  generalize clashC T r.exit = c3
  generalize abreast T r.exit = b
  generalize bits .and .i64 r.dwell r.bars = x
  obtain ⟨bars, clear, dwell, exit, delay, green, foot, hold, stay, most, limit⟩ := r
  simp only at *
  clear h1 h2 h3 ho
  have e0 : (hold == 0) = !decide (0 < hold) := by rw [Bool.eq_iff_iff]; simp; omega
  have e1 : decide (0 < most) = !(most == 0) := by rw [Bool.eq_iff_iff]; simp; omega
  rw [e0, e1, lt_dec green 1, lt_dec stay 1, lt_dec most stay, lt_dec delay limit]
  simp only [bne]
  generalize decide (0 < hold) = g0
  generalize (clear == 0) = g1
  generalize decide (1 ≤ green) = g2
  generalize decide (1 ≤ stay) = g3
  generalize (most == 0) = g4
  generalize decide (stay ≤ most) = g5
  generalize decide (limit ≤ delay) = g6
  generalize (dwell == 0) = g7
  generalize (exit == 0) = g8
  generalize (x == 0) = g9
  have e2 : (g0 == !g1) = ((!g0) == g1) := by revert g0 g1; decide
  rw [e2]
  generalize ((!g0) == g1) = k
  simp only [Bool.not_or, Bool.not_and, Bool.not_not]
  ac_rfl
end Go.Proofs.YtjolhoilcibdfaaGreat.ChkX
/- The table by numbers has no Fault (stage 9): all lies within the ranges. No program in it. -/
namespace Go.Proofs.YtjolhoilcibdfaaGreat.Val
open Go Tab GenG GenT PlaceM PlanM OnS ChkM Clone May
open RefS (num num_range)
open ChkX (allIn_iff in_ranges InR)
open MayF (level span)
set_option linter.unusedVariables false
set_option linter.unusedSimpArgs false
theorem genTab_rails (L : List Int) : (genTab L).rails = down (fun i => GenR.genRl (tab1 L) L (260 + 16 * i) (genN L)) (num L 176 4 % 3).toNat (num L 176 4 % 3).toNat := by
  unfold genTab; split <;> rfl
/-! ### sums stay within a tick's range -/
end Go.Proofs.YtjolhoilcibdfaaGreat.Val
/- What is walked outside a round holds inside one: regions whose walk is known by the plain laws (wpList, Pw) serve in the body of a range over a function. No program in it. -/
namespace Go.Proofs.YtjolhoilcibdfaaGreat.Up
open Go Go.RowKit
def noDefer (l : List Oper) : Bool := l.all fun o => match o.op with | .defer _ => false | _ => true
theorem not_defer {l : List Oper} (h : noDefer l = true) {o : Oper} (ho : o ∈ l) : ∀ c, o.op ≠ .defer c := by
  intro c e
  have := List.all_eq_true.1 h o ho
  rw [e] at this
  cases this
section
variable {P : Program} {l n : Nat} {Q : Exit → Act → World → Prop}
theorem op_up {o : Oper} {a : Act} {w : World} {K K' : Act → World → Prop} (hn : ∀ a w, K a w → K' a w) (hd : ∀ c, o.op ≠ .defer c) (h : o.wp P a w K Q) : o.wpIn (Fence.wide.inRound l) n P a w K' Q := by
  refine ⟨fun _ _ => trivial, ?_⟩
  rw [show (Fence.wide.inRound l).round = some l from rfl, Oper.semAt_some l _ _ hd]
  unfold Oper.wp at h
  generalize (execOp a.eval o).run P w = r at h
  cases r with
  | ok nx w' =>
    cases nx with
    | value v => exact hn _ _ h
    | skip => exact hn _ _ h
    | defer d => exact hn _ _ h
    | enter f args =>
      refine ⟨fun h => (by cases h), CallsIn.inRound l (callsIn_wide.2 (Calls.mono h ?_))⟩
      intro e w'' he
      cases e with
      | returned v => exact hn _ _ he
      | panicked c => exact he
      | outgrown => exact he
    | row row args => exact ⟨fun h => (by cases h), fun c cs _ => let ⟨v, w', r, s⟩ := h c cs; ⟨v, w', hn _ _ r, stepsIn_wide.2 s⟩⟩
    | _ => exact h.elim
  | halt e w' =>
    cases e with
    | panic v => exact h
    | _ => exact h.elim
theorem list_up (hQ : ¬ LetsOut Q) {ops : Array Oper} : ∀ (m : List Oper) (a : Act) (w : World), noDefer m = true → wpList P ops Q m a w → wpListIn (Fence.wide.inRound l) n P ops Q m a w
  | [], a, w, _, h => h
  | o :: rest, a, w, hd, h => by
    have hr : noDefer rest = true := by unfold noDefer at hd ⊢; rw [List.all_cons, Bool.and_eq_true] at hd; exact hd.2
    unfold wpList at h
    unfold wpListIn
    split at h
    · rename_i hw
      rw [if_pos hw]
      rcases h with h | h
      · exact op_up (fun a w h => list_up hQ rest a w hr h) (not_defer hd (List.mem_cons_self ..)) h
      · exact absurd h.2 hQ
    · rename_i hw
      rw [if_neg hw]
      exact ⟨fun _ _ => trivial, list_up hQ rest _ _ hr h⟩
theorem any_up (hQ : ¬ LetsOut Q) {md : Region.Mode} {ops : Array Oper} (hd : noDefer ops.toList = true) : ∀ (fuel : Nat) (listed : Array Bool) (a : Act) (w : World), wpAny P md ops Q fuel listed a w → wpAnyIn (Fence.wide.inRound l) n P md ops Q fuel listed a w
  | 0, _, _, _, h => h
  | fuel + 1, listed, a, w, h => by
    refine ⟨h.1, fun i hi => ?_⟩
    have h1 := h.2 i hi
    unfold wpOp at h1
    unfold wpOpIn
    cases ho : ops[i]? with
    | none => rw [ho] at h1; exact any_up hQ hd fuel _ _ _ h1
    | some o =>
      rw [ho] at h1
      have hm : o ∈ ops.toList := List.mem_of_getElem? (by rw [Array.getElem?_toList]; exact ho)
      dsimp only at h1 ⊢
      split at h1
      · rename_i hw
        rw [if_pos hw]
        rcases h1 with h1 | h1
        · exact op_up (fun a w h => any_up hQ hd fuel _ a w h) (not_defer hd hm) h1
        · exact absurd h1.2 hQ
      · rename_i hw
        rw [if_neg hw]
        exact ⟨fun _ _ => trivial, any_up hQ hd fuel _ _ _ h1⟩
/-- A region that does not draw, in a round, by the plain walk. -/
theorem region_list {id : Nat} {m : List Oper} {a : Act} {w : World} (hQ : ¬ LetsOut Q) (hd : noDefer m = true) (h : wpList P m.toArray Q m a w) : (Code.region id m.toArray false).wpIn (Fence.wide.inRound l) n P Q a w :=
  wpIn_region_lit (list_up hQ m a w hd h)
/-- A region that draws, in a round, by phases. -/
theorem region_ph {id : Nat} {a : Act} {w : World} {m : List Oper} (D : Nat → World → Prop) (cs : List Nat) (hQ : ¬ LetsOut Q) (hd : noDefer m = true) (hm : P.follows .mixedOrders = true) (hB : Ph.okB .any m.toArray cs = true) (hD : D 0 w.drew)
    (h : Pw.W P m.toArray D cs (fun a' => ∀ w', D cs.length w' → Q .normal a' w') 0 m a) : (Code.region id m.toArray true).wpIn (Fence.wide.inRound l) n P Q a w := by
  have h := h.out
  simp only [Ph.okB, Bool.and_eq_true] at hB
  obtain ⟨⟨hs, hc⟩, hlex⟩ := hB
  have h1 := Ph.wpAnyP_lex (md := .any) hs hc m 0 (Array.replicate m.toArray.size false) a (by simp) (by simpa using hlex) h
  refine wpIn_region_any hm (any_up hQ (by simpa using hd) _ _ _ _ ?_)
  refine Ph.wpAny_of_ph (D := D) (cs := cs) (Q := fun L a => (cs.all fun c => L.getD c false) = true ∧ ∀ w', D cs.length w' → Q .normal a w') (fun L a w ⟨p, hp, hat, hd⟩ ⟨hall, hq⟩ => ?_) _ _ _ _ (by simp) ⟨0, Nat.zero_le _, fun q c _ => by rw [getD_replicate_false]; simp, hD⟩ (by simpa using h1)
  have hpe : p = cs.length := by
    rcases Nat.lt_or_ge p cs.length with h2 | h2
    · have h3 := hat p _ (List.getElem?_eq_getElem h2)
      have h4 := List.all_eq_true.1 hall _ (List.getElem_mem h2)
      rw [h4] at h3
      have := of_decide_eq_true h3.symm
      omega
    · omega
  subst hpe
  exact hq w hd
end
end Go.Proofs.YtjolhoilcibdfaaGreat.Up
/- The contract of the iterator set.Each, for a body that may know that what it is handed is in the set. At all integers. -/
namespace Go.Proofs.YtjolhoilcibdfaaGreat.Each
open Go.RowKit Go.Shelf
open Go.Proofs.YtjolhoilcibdfaaGreat
set_option linter.unusedVariables false

attribute [local go_sem] Oper.semAt_some

/-- The block B lies as it lay. -/
def Kept (B : Nat) (W W' : World) : Prop := W'.heap[B]? = W.heap[B]?
theorem Kept.refl (B : Nat) (W : World) : Kept B W W := rfl
theorem Kept.trans {B : Nat} {A C D : World} (h : Kept B A C) (k : Kept B C D) : Kept B A D := Eq.trans k h
theorem Kept.cell {B o : Nat} {A C : World} (h : Kept B A C) : C.cell? ⟨B, o, none⟩ = A.cell? ⟨B, o, none⟩ := by
  simp only [World.cell?, show C.heap[B]? = A.heap[B]? from h]
theorem Kept.below {n₀ B : Nat} {A C : World} (h : Below n₀ A C) (hB : B < n₀) : Kept B A C := h.block B hB
theorem Kept.setCell {B b o : Nat} (W : World) (v : Value) (h : B ≠ b) : Kept B W (W.setCell ⟨b, o, none⟩ v) := Below.heap_setCell _ _ _ B h
theorem kept_b {B : Nat} {w : World} (hB : B < w.heap.size) (W : World) (l : Nat) (o o' : Obj) (hl : w.heap.size ≤ l) (_ : W.heap[l]? = some o) (_ : o.isCells = false) (_ : o.isWalk = false) : Kept B W (W.putObj l o') :=
  World.putObj_heap_other (by omega)

set_option maxRecDepth 100000 in
set_option maxHeartbeats 2000000 in
/-- The iterator itself: for every loop body. -/
theorem each1_in (n : Nat) (hn : 1 ≤ n) (l Bs : Nat) (s : Int) (J Jx : List Int → World → Prop)
    (hY : ∀ pre (x : Int) W, J pre W → pre ++ [x] <+: SetM.list s → YieldAt Fence.wide (n - 1) Tryz.prog l #[.int .i64 x] W fun e W' =>
      (e = .returned (.bool true) ∧ J (pre ++ [x]) W' ∧ Kept Bs W W') ∨ (e = .returned (.bool false) ∧ Jx (pre ++ [x]) W'))
    (W : World) (hc : W.cell? ⟨Bs, 0, none⟩ = some (.int .i64 s)) (h0 : J [] W) :
    CallsIn Fence.wide n Tryz.prog 127 #[.func (.yield l) #[] #[], .pointer (some ⟨Bs, 0, none⟩)] W fun e W' => (∃ v, e = .returned v) ∧
      ((∃ ys, ys = SetM.list s ∧ J ys W') ∨ (∃ pre, pre <+: SetM.list s ∧ Jx pre W')) := by
  refine callsIn_of_wp Tryz.func127 rfl trivial ?_ rfl
  simp only [Tryz.ntmps127, List.size_toArray, List.length_cons, List.length_nil, Nat.reduceAdd, Nat.reduceSub, Array.replicate_succ, Array.replicate_zero, List.push_toArray, List.append_toArray, List.nil_append, List.cons_append]
  gi_wp2
  gi_loopw [4] (fun i wr => ∃ k : Nat, k ≤ 8 ∧ i = .int .i64 k ∧ J (SetM.upto s k) wr ∧ Kept Bs W wr)
    (fun i _ => 8 - (intOf i).toNat)
  case atStart => exact ⟨0, Nat.zero_le _, rfl, h0, Kept.refl _ _⟩
  case round =>
    obtain ⟨k, hk, rfl, hJs, hnx⟩ := hrel
    have hcx := (hnx.cell (o := 0)).trans hc
    by_cases hlt : k < 8
    · by_cases hh : SetM.has s k = true
      · obtain ⟨fn, tmps, assign, body, hy, hR⟩ := hY _ (k : Int) wr hJs (by rw [← SetM.upto_hit s k hh]; exact SetM.upto_list s (k + 1) (by omega))
        have Hs := Lib.hid (SetM.upto_hit s k hh)
        have Hp := Lib.hid (SetM.upto_list s (k + 1) (by omega))
        gi_wp2_with (refine ⟨trivial, ?_⟩; gi_at_call 95; refine (callsIn_wide.2 (SetP.has_any _ _ _)).mono ?_; rintro e w' ⟨rfl, rfl⟩; rw [hh])
        refine hR.mono ?_
        rintro e W3 (⟨rfl, hJ3, hk3⟩ | ⟨rfl, hJx3⟩)
        · gi_wp2
          go_roundw
          case rel => exact ⟨k + 1, by omega, by go_num, by rw [Hs.out]; exact hJ3, hnx.trans hk3⟩
          case measure => simp [intOf]; omega
        · gi_wp2
          refine bodyPost_ret (results_none rfl _ _ _) rfl ?_
          exact ⟨⟨_, rfl⟩, .inr ⟨_, by rw [← Hs.out]; exact Hp.out, hJx3⟩⟩
      · have hh' : SetM.has s k = false := by simpa using hh
        have Hs := Lib.hid (SetM.upto_miss s k hh')
        clear hh
        gi_wp2_with (refine ⟨trivial, ?_⟩; gi_at_call 95; refine (callsIn_wide.2 (SetP.has_any _ _ _)).mono ?_; rintro e w' ⟨rfl, rfl⟩; rw [hh'])
        refine ⟨fun _ h => (by cases h), ?_⟩
        gi_wp2
        go_roundw
        case rel => exact ⟨k + 1, by omega, by go_num, by rw [Hs.out]; exact hJs, hnx⟩
        case measure => simp [intOf]; omega
    · obtain rfl : k = 8 := by omega
      gi_wp2
      go_end0
      exact ⟨⟨_, rfl⟩, .inl ⟨_, rfl, hJs⟩⟩

set_option maxHeartbeats 1000000 in
/-- set.Each(s): the set is boxed; the function value captures the box. -/
theorem each_in (n : Nat) (s : Int) (w : World) :
    CallsIn Fence.wide n Tryz.prog 104 #[.int .i64 s] w fun e w' => e = .returned (.func (.func 127) #[] #[.pointer (some ⟨w.heap.size, 0, none⟩)]) ∧ w' = w.alloc (.cells #[.int .i64 s] 3) := by
  refine callsIn_of_wp Tryz.func104 rfl trivial ?_ rfl
  simp only [Tryz.ntmps104, List.size_toArray, List.length_cons, List.length_nil, Nat.reduceAdd, Nat.reduceSub, Array.replicate_succ, Array.replicate_zero, List.push_toArray, List.append_toArray, List.nil_append, List.cons_append]
  gi_wp2
  go_ret
  exact ⟨rfl, rfl⟩

/-- What the body is handed: a member of the set. -/
abbrev Mem (s : Int) := { x : Int // x ∈ SetM.list s }
/-- The value that set.Each hands back: the phases of s, in order; or the first of them, where a round has said 'no more'. -/
theorem each_mem (n : Nat) (hn : 1 ≤ n) (Bs : Nat) (s : Int) (w : World) (hBs : Bs < w.heap.size) (hc : w.cell? ⟨Bs, 0, none⟩ = some (.int .i64 s)) :
    SeqStopsK Fence.wide n Tryz.prog 127 #[.pointer (some ⟨Bs, 0, none⟩)] (fun x : Mem s => #[Value.int .i64 x.1]) (Kept Bs) (fun ys => ys.map Subtype.val = SetM.list s) (fun pre => pre.map Subtype.val <+: SetM.list s) (SetM.list s).length w := fun l J Jx W hW _ _ hY h0 => by
  refine (each1_in n hn l Bs s (fun pre W => ∃ m : List (Mem s), m.map Subtype.val = pre ∧ J m W) (fun pre W => ∃ m : List (Mem s), m.map Subtype.val = pre ∧ Jx m W) ?_ W ((hW.cell (p := ⟨Bs, 0, none⟩) hBs).trans hc) ⟨[], rfl, h0⟩).mono ?_
  · rintro pre x W1 ⟨m, rfl, hJ⟩ hp
    have hx : x ∈ SetM.list s := hp.subset (by simp)
    have hl : m.length < (SetM.list s).length := by have := hp.length_le; simp at this; omega
    obtain ⟨fn, tmps, assign, body, hy, hR⟩ := hY m ⟨x, hx⟩ W1 hJ hl
    refine ⟨fn, tmps, assign, body, hy, hR.mono ?_⟩
    rintro e W' (⟨h1, h2, h3⟩ | ⟨h1, h2⟩)
    · exact .inl ⟨h1, ⟨_, by simp, h2⟩, h3⟩
    · exact .inr ⟨h1, ⟨_, by simp, h2⟩⟩
  · rintro e W' ⟨hv, h⟩
    refine ⟨hv, ?_⟩
    rcases h with ⟨ys, rfl, m, hm, hJ⟩ | ⟨pre, hp, m, rfl, hJ⟩
    · exact .inl ⟨m, hm, hJ⟩
    · exact .inr ⟨m, hp, hJ⟩
end Go.Proofs.YtjolhoilcibdfaaGreat.Each
/- A search over the phases of a set, 'for p := range set.Each(s) { if bad(p) { return v(p) } }': one law for every body. -/
namespace Go.Proofs.YtjolhoilcibdfaaGreat.Search
open Go.RowKit Go.Shelf
open Each
set_option linter.unusedVariables false
/-- How a round of a search is left: it goes on, nothing that lay has turned; or it returns, and has written the block R. -/
def post (R : Nat) (o : Int → Obj) (bad : Int → Bool) (x : Int) (W : World) : Exit → Act → World → Prop
  | .normal, _, W' => bad x = false ∧ Below W.heap.size W W'
  | .ret, _, W' => bad x = true ∧ W.grownBy W' (some R) ∧ W'.heap[R]? = some (o x)
  | _, _, _ => False
theorem keeps_below {B : Nat} {W W' : World} (h : Below W.heap.size W W') : KeepsFrom B W W' := ⟨h.size, fun k o _ hk _ => (h.block k (Array.getElem?_eq_some_iff.1 hk).1).trans hk⟩
theorem grown_of_below {W W' : World} {row : Option Nat} (h : Below W.heap.size W W') : W.grownBy W' row := ⟨h.os, h.tape, h.output, h.size, fun j hj _ => h.block j hj⟩
theorem grown_trans {A B C : World} {R : Nat} (h : A.grownBy B (some R)) (k : B.grownBy C (some R)) : A.grownBy C (some R) :=
  ⟨k.os.trans h.os, k.tape.trans h.tape, k.output.trans h.output, Nat.le_trans h.size k.size, fun j hj hne => (k.block j (Nat.lt_of_lt_of_le hj h.size) hne).trans (h.block j hj hne)⟩
theorem grown_from {A B C : World} {R : Nat} {row : Option Nat} (h : A.grownBy B (some R)) (k : B.grownBy C row) (hr : ∀ r, row = some r → A.heap.size ≤ r) : A.grownBy C (some R) :=
  ⟨k.os.trans h.os, k.tape.trans h.tape, k.output.trans h.output, Nat.le_trans h.size k.size, fun j hj hne => (k.block j (Nat.lt_of_lt_of_le hj h.size) (fun e => by have := hr j e.symm; omega)).trans (h.block j hj hne)⟩
theorem find_pre {f : Int → Bool} {l p : List Int} {x : Int} (hp : p ++ [x] <+: l) (hn : ∀ y ∈ p, f y = false) (hx : f x = true) : l.find? f = some x := by
  obtain ⟨t, rfl⟩ := hp
  rw [List.append_assoc, List.find?_append, List.find?_eq_none.2 (fun y hy => by simp [hn y hy])]
  simp [hx]
set_option maxHeartbeats 1000000 in
theorem search {n : Nat} {g : Operand} {ps : Array Tmp} {assign body : Code} {Q : Exit → Act → World → Prop} {a : Act} {W0 : World} (bad : Int → Bool) (o : Int → Obj) (Bs R : Nat) (s : Int)
    (hn : 3 ≤ n) (hg : a.eval g = .func (.func 127) #[] #[.pointer (some ⟨Bs, 0, none⟩)]) (hps : ps.size = 1) (hBs : Bs < W0.heap.size) (hR : R < W0.heap.size) (hc : W0.cell? ⟨Bs, 0, none⟩ = some (.int .i64 s)) (a₁ : Int → Act)
    (hassign : ∀ (l : Nat) (x : Int) (W : World) (K : Act → World → Prop), K (a₁ x) W → assign.wpIn (Fence.wide.inRound l) (n - 1 - 1) Tryz.prog (Exit.then K (fun _ _ _ => False)) { tmps := (ps.zip #[Value.int .i64 x]).foldl (fun t (p, v) => t.setIfInBounds p v) a.tmps, defers := [] } W)
    (hbody : ∀ (l : Nat) (x : Int) (W : World), x ∈ SetM.list s → Below W0.heap.size W0 W → body.wpIn (Fence.wide.inRound l) (n - 1 - 1) Tryz.prog (post R o bad x W) (a₁ x) W)
    (hdone : ∀ (D : Nat) (W : World), W0.heap.size ≤ D → (∀ x ∈ SetM.list s, bad x = false) → Below W0.heap.size W0 W → W.heap[D]? = some (.deferred (some [])) → Q .normal { a with defers := { target := .collected D, args := #[] } :: a.defers } W)
    (hstop : ∀ (D : Nat) (x : Int) (W : World), W0.heap.size ≤ D → (SetM.list s).find? bad = some x → bad x = true → W0.grownBy W (some R) → W.heap[R]? = some (o x) → W.heap[D]? = some (.deferred (some [])) → Code.ret.wpIn Fence.wide n Tryz.prog Q { a with defers := { target := .collected D, args := #[] } :: a.defers } W) :
    (Code.rangeFunc g ps assign body).wpIn Fence.wide n Tryz.prog Q a W0 := by
  refine wpIn_rangeFunc_ownG rfl (by omega) (gf := 127) (lb := #[.pointer (some ⟨Bs, 0, none⟩)]) hg trivial (enters_of Tryz.func127 (by kernel_rfl) rfl)
    (each_mem _ (by omega) Bs s W0 hBs hc) Kept.trans (kept_b hBs) (Below.refl _ _) (fun _ => hps.symm)
    (fun pre W => (∀ y ∈ pre, bad y.1 = false) ∧ Below W0.heap.size W0 W)
    (fun c pre W => (c = .ret ∧ ∃ p0 x, pre = p0 ++ [x] ∧ (∀ y ∈ p0, bad y.1 = false) ∧ bad x.1 = true ∧ W.heap[R]? = some (o x.1)) ∧ W0.grownBy W (some R))
    (OwnFrom.and (ownFrom_pure _ _) (ownFrom_below (Nat.le_refl _) (Nat.le_refl _)))
    ?own ⟨by simp, Below.refl _ _⟩ (fun x => a₁ x.1) (fun l x W K h => hassign l x.1 W K h) ?body ?done ?stop
  case own =>
    rintro c pre W W' row ⟨⟨h1, p0, x, h2, h3, h4, h5⟩, hg⟩ hgr hr
    have hlt : R < W.heap.size := (Array.getElem?_eq_some_iff.1 h5).1
    exact ⟨⟨h1, p0, x, h2, h3, h4, (hgr.block R hlt (fun e => by have := (hr R e.symm).1; omega)).trans h5⟩, grown_from hg hgr (fun r e => (hr r e).1)⟩
  case body =>
    rintro l pre x W ⟨hp, hB⟩ _
    refine wpIn_mono (hbody l x.1 W x.2 hB) ?_
    intro e a' W' h
    cases e with
    | normal =>
      obtain ⟨h1, h2⟩ := h
      refine ⟨keeps_below h2, Kept.below h2 (by have := hB.size; omega), ?_, hB.trans (h2.mono hB.size)⟩
      intro y hy
      rcases List.mem_append.1 hy with hy | hy
      · exact hp y hy
      · obtain rfl : y = x := by simpa using hy
        exact h1
    | ret =>
      obtain ⟨h1, h2, h3⟩ := h
      exact ⟨KeepsFrom.of_grownBy h2 (fun j e => by cases e; exact hR), ⟨rfl, pre, x, rfl, hp, h1, h3⟩, grown_trans (grown_of_below (hB.mono (Nat.le_refl _))) h2⟩
    | _ => exact h.elim
  case done =>
    rintro D xs W hD hS ⟨hp, hB⟩ hK
    refine hdone D W hD ?_ hB hK
    rw [← hS]
    intro x hx
    obtain ⟨y, hy, rfl⟩ := List.mem_map.1 hx
    exact hp y hy
  case stop =>
    rintro D c pre W hD hS ⟨⟨rfl, p0, x, rfl, h3, h4, h5⟩, hg⟩ hK
    refine hstop D x.1 W hD (find_pre (p := p0.map Subtype.val) (by simpa using hS) ?_ h4) h4 hg h5 hK
    intro y hy
    obtain ⟨z, hz, rfl⟩ := List.mem_map.1 hy
    exact h3 z hz
end Go.Proofs.YtjolhoilcibdfaaGreat.Search
/- The contracts of plan.hasGroup, rowsOf, Members, On, Next and Following. -/
namespace Go.Proofs.YtjolhoilcibdfaaGreat.PlanC
open Go.ChangeShapes Go.WideShapes Go.ChangeAt Go.RowKit
open Tab PlaceM PlanM
open May (ret_bool chain infoP infoG St phases_in)
open SetP (of_any has_any)
open Same (below_setRow)
set_option linter.unusedVariables false
set_option linter.unusedSimpArgs false
theorem ret_int {k : IntKind} {a b : Int} (h : a = b) : Ending.returned (.int k a) = .returned (.int k b) := by rw [h]
theorem infoZ : (Tryz.prog.info? 41).map (fun i => (i.zero, i.size)) = some (some (.agg #[.slice none 0 0, .slice none 0 0]), 2) := by kernel_rfl
theorem infoT : (Tryz.prog.info? 32).map (·.size) = some 131 := by kernel_rfl
theorem info2 : (Tryz.prog.info? 41).map (·.size) = some 2 := by kernel_rfl
theorem idx0 (v0 v1 : Value) (w : World) : Sem.run Tryz.prog (Instr.index 41 (.agg #[v0, v1]) (.int .i64 0)) w = .ok v0 w := by kernel_rfl
theorem idx1 (v0 v1 : Value) (w : World) : Sem.run Tryz.prog (Instr.index 41 (.agg #[v0, v1]) (.int .i64 1)) w = .ok v1 w := by kernel_rfl
theorem row_of_int {w : World} {a : Option Addr} {cap : Nat} {L : List Int} (h : IntRow w ⟨a, cap⟩ L) : RefS.Row w a L := by
  have hl := h.len
  refine ⟨by omega, ?_⟩
  by_cases h0 : L = []
  · exact .inl h0
  · have hp : 0 < L.length := List.length_pos_iff.2 h0
    obtain ⟨x, hx, _⟩ := IntRow.at h (List.getElem?_eq_getElem hp)
    refine .inr ⟨x, hx, fun i hi => ?_⟩
    obtain ⟨y, hy, hc⟩ := IntRow.at h (List.getElem?_eq_getElem hi)
    obtain rfl : x = y := Option.some.inj (hx.symm.trans hy)
    rw [hc, List.getD_eq_getElem?_getD, List.getElem?_eq_getElem hi]
    rfl
set_option maxRecDepth 100000 in
set_option maxHeartbeats 4000000 in
theorem hasGroup_any (T : Tab) (h : Hd) (g : Int) (w : World) (ht : IsTab w h T) :
    Calls Tryz.prog 147 #[.agg (T.cells h).toArray, .int .i64 g] w fun e w' => e = .returned (.bool (decide (0 ≤ g ∧ g < T.groups.length))) ∧ Below w.heap.size w w' := by
  have C := Lib.hid (cells_ok ht)
  generalize (T.cells h).toArray = cs at C ⊢
  have hsz := C.out.size
  have S0 := Lib.hid (St.box (cs := cs) ht)
  clear ht
  have q104 := S0.out.cell C.out.g
  generalize hr : decide (0 ≤ g ∧ g < T.groups.length) = r
  have HR := Lib.hid hr
  clear hr
  generalize T.groups.length = n at *
  have Q104 := Lib.hid q104
  clear q104
  go_enter Tryz.func147, Tryz.ntmps147
  go_upto_region 1 with fail
  generalize w.alloc (.cells cs 32) = w1 at S0 Q104 ⊢
  clear hsz
  have q104 := Q104.out
  by_cases h0 : 0 ≤ g
  · by_cases h1 : g < n
    · go_wp2
      go_ret
      exact ⟨ret_bool (by rw [← HR.out]; simp [h0, h1]), S0.out.bel⟩
    · go_wp2
      go_ret
      exact ⟨ret_bool (by rw [← HR.out]; simp [h0, h1]), S0.out.bel⟩
  · go_wp2
    go_ret
    exact ⟨ret_bool (by rw [← HR.out]; symm; rw [decide_eq_false_iff_not]; omega), S0.out.bel⟩
/-- A group's two rows as a value. -/
def Pair (w : World) (y : List Int × List Int) (s0 s1 : Sl) : Prop := IntRow w s0 y.1 ∧ IntRow w s1 y.2
set_option maxRecDepth 100000 in
set_option maxHeartbeats 4000000 in
theorem rowsOf_any (T : Tab) (h : Hd) (g : Int) (w : World) (ht : IsTab w h T) :
    Calls Tryz.prog 140 #[.agg (T.cells h).toArray, .int .i64 g] w fun e w' => ∃ s0 s1 : Sl, e = .returned (.agg #[s0.val (rowsAt T g).1.length, s1.val (rowsAt T g).2.length]) ∧ Pair w' (rowsAt T g) s0 s1 ∧ Below w.heap.size w w' := by
  have hsz := (cells_ok ht).size
  have C := Lib.hid (cells_ok ht)
  have IA : Hid ((Tryz.prog.info? 32).map (·.size) = some (T.cells h).length) := Lib.hid (by rw [List.size_toArray] at hsz; rw [hsz]; exact infoT)
  have HG : Hid (∀ W, Below w.heap.size w W → Calls Tryz.prog 147 #[.agg (T.cells h).toArray, .int .i64 g] W fun e w' => e = .returned (.bool (decide (0 ≤ g ∧ g < T.groups.length))) ∧ Below W.heap.size W w') := Lib.hid (fun W hb => hasGroup_any T h g W (ht.below hb))
  obtain ⟨gs, hgd, hgr⟩ := ht.groups
  have Hgr := Lib.hid hgr
  have Hgd := Lib.hid hgd
  have Hgl := Lib.hid (show T.groups.length = gs.length by rw [← hgd, List.length_map])
  have Kg := hgr.1.len
  unfold maxLen at Kg
  have A0 : Hid (Below w.heap.size w ((w.alloc (.cells (T.cells h).toArray 32)).alloc (.cells #[.slice none 0 0, .slice none 0 0] 41))) := Lib.hid (((Below.refl _ _).alloc (Nat.le_refl _) _).alloc (by simp) _)
  have A1 : Hid (((w.alloc (.cells (T.cells h).toArray 32)).alloc (.cells #[.slice none 0 0, .slice none 0 0] 41)).heap[w.heap.size]? = some (.cells (T.cells h).toArray 32 (0, 0))) := Lib.hid (heap_alloc2_old w _ _)
  have A2 : Hid (((w.alloc (.cells (T.cells h).toArray 32)).alloc (.cells #[.slice none 0 0, .slice none 0 0] 41)).heap[w.heap.size + 1]? = some (.cells #[.slice none 0 0, .slice none 0 0] 41 (0, 0))) := Lib.hid (heap_alloc2_new w _ _)
  have hz := (zero_of_info infoZ).1
  clear ht hgr hgd
  generalize T.cells h = c at *
  go_enter Tryz.func140, Tryz.ntmps140
  go_upto_region 1 with fail
  generalize ((w.alloc (.cells c.toArray 32)).alloc (.cells #[.slice none 0 0, .slice none 0 0] 41)) = u at A0 A1 A2 ⊢
  clear hsz hz
  have LT : Hid (Lies u ⟨w.heap.size, 0, none⟩ c) := Lib.hid (by have := Row.lies_of_block A1.out; simpa using this)
  go_wp2_with (refine Row.wpList_load_g 32 _ rfl (by first | rfl | go_simp) ⟨w.heap.size, 0, none⟩ rfl c _ LT.out Tryz.underlying32 rfl IA.out ?_)
  refine (HG.out _ A0.out).mono ?_
  rintro e u1 ⟨rfl, hb⟩
  have B0 : Hid (Below w.heap.size w u1) := Lib.hid (A0.out.trans (hb.mono A0.out.size))
  have B1 : Hid (u1.heap[w.heap.size]? = some (.cells c.toArray 32 (0, 0))) := Lib.hid ((hb.block _ (Array.getElem?_eq_some_iff.1 A1.out).1).trans A1.out)
  have B2 : Hid (u1.heap[w.heap.size + 1]? = some (.cells #[.slice none 0 0, .slice none 0 0] 41 (0, 0))) := Lib.hid ((hb.block _ (Array.getElem?_eq_some_iff.1 A2.out).1).trans A2.out)
  clear hb A0 A1 A2 LT HG
  by_cases hg : 0 ≤ g ∧ g < T.groups.length
  · rw [decide_eq_true hg]
    obtain ⟨g0, g1⟩ := hg
    obtain ⟨q, rfl⟩ := Int.eq_ofNat_of_zero_le g0
    have hlt : q < gs.length := by have := Hgl.out; omega
    have hv := List.getElem?_eq_getElem hlt
    generalize gs[q] = v at hv
    have HR : Hid (rowsAt T q = v.data) := Lib.hid (rows_in (by rw [← Hgd.out, List.getElem?_map, hv]; rfl))
    obtain ⟨x, hx, hc⟩ := (Hgr.out.1.below B0.out).at hv
    have hok := (Hgr.out.2 v (List.mem_of_getElem? hv)).below B0.out
    have q104 : u1.cell? ⟨w.heap.size, 104, none⟩ = some (.slice (some x) gs.length h.g.cap) := by
      rw [cell_of_row _ _ _ _ _ _ B1.out, C.out.g, Hgl.out]; simp only [Sl.val, hx]
    have HC := Lib.hid hc
    have HM := Lib.hid (List.mem_of_getElem? hv)
    have HW := Lib.hid (below_setRow B0.out (g := w.heap.size + 1) (by omega) v.cells.toArray)
    have HK := Lib.hid (setRow_heap u1 (w.heap.size + 1) _ v.cells.toArray _ _ B2.out)
    have V1 : Hid (v.cells.toArray.all (·.oneCell') = true) := Lib.hid (Gr.one v)
    clear hv hc hok hx g1
    go_wp2_with (first | (refine Row.wpList_load_g 41 _ rfl (by first | rfl | go_simp) (x.add (q * 2)) rfl v.cells _ HC.out Tryz.underlying41 rfl info2 ?_) | (refine wpList_store_row rfl 41 _ _ rfl (w.heap.size + 1) v.cells.toArray rfl rfl 41 _ B2.out info2 rfl V1.out ?_))
    have HO2 : Hid (v.ok (u1.setRow (w.heap.size + 1) v.cells.toArray)) := Lib.hid ((Hgr.out.2 v HM.out).below HW.out)
    generalize u1.setRow (w.heap.size + 1) v.cells.toArray = u2 at HW HK HO2 ⊢
    go_wp2_with fail
    (try simp only [Exit.inBlock, Exit.then])
    refine bodyPost_ret (v := .agg v.cells.toArray) ?_ rfl ⟨v.s0, v.s1, by rw [HR.out]; rfl, by rw [HR.out]; exact HO2.out, HW.out⟩
    exact results_cell_row rfl _ _ (w.heap.size + 1) 41 _ (0, 0) _ rfl HK.out Tryz.underlying41 rfl info2
  · rw [decide_eq_false hg]
    have HR : Hid (rowsAt T g = ([], [])) := Lib.hid (rows_out hg)
    have HW := Lib.hid (below_setRow B0.out (g := w.heap.size + 1) (by omega) #[.slice none 0 0, .slice none 0 0])
    have HK := Lib.hid (setRow_heap u1 (w.heap.size + 1) _ #[.slice none 0 0, .slice none 0 0] _ _ B2.out)
    clear hg
    go_wp2_with (first | (refine wpList_store_row rfl 41 _ _ rfl (w.heap.size + 1) #[.slice none 0 0, .slice none 0 0] rfl rfl 41 _ B2.out info2 rfl (by simp [Value.oneCell']) ?_))
    generalize u1.setRow (w.heap.size + 1) #[.slice none 0 0, .slice none 0 0] = u2 at HW HK ⊢
    go_wp2_with fail
    (try simp only [Exit.inBlock, Exit.then])
    refine bodyPost_ret (v := .agg #[.slice none 0 0, .slice none 0 0]) ?_ rfl ⟨⟨none, 0⟩, ⟨none, 0⟩, by rw [HR.out]; rfl, by rw [HR.out]; exact ⟨RowOf.nil _, RowOf.nil _⟩, HW.out⟩
    exact results_cell_row rfl _ _ (w.heap.size + 1) 41 _ (0, 0) _ rfl HK.out Tryz.underlying41 rfl info2
theorem of_len (a : Option Addr) (cap : Nat) (l : List Int) (w : World) (h : IntRow w ⟨a, cap⟩ l) : Calls Tryz.prog 100 #[.slice a l.length cap] w fun e w' => e = .returned (.int .i64 (SetM.of l : Nat)) ∧ w = w' := of_any a cap l w (row_of_int h)
theorem or0 (m : Nat) (h : m < 256) : bits .or .i64 0 (m : Int) = (m : Int) := by
  have := RefS.or_small 0 m (by decide) h
  simpa using this
set_option maxRecDepth 100000 in
set_option maxHeartbeats 4000000 in
theorem members_any (T : Tab) (h : Hd) (g : Int) (w : World) (ht : IsTab w h T) :
    Calls Tryz.prog 111 #[.agg (T.cells h).toArray, .int .i64 g] w fun e w' => e = .returned (.int .i64 (membS T g : Nat)) ∧ Below w.heap.size w w' := by
  have hsz := (cells_ok ht).size
  have C := Lib.hid (cells_ok ht)
  have IA : Hid ((Tryz.prog.info? 32).map (·.size) = some (T.cells h).length) := Lib.hid (by rw [List.size_toArray] at hsz; rw [hsz]; exact infoT)
  have RO : Hid (∀ W, Below w.heap.size w W → Calls Tryz.prog 140 #[.agg (T.cells h).toArray, .int .i64 g] W fun e w' => ∃ s0 s1 : Sl, e = .returned (.agg #[s0.val (rowsAt T g).1.length, s1.val (rowsAt T g).2.length]) ∧ Pair w' (rowsAt T g) s0 s1 ∧ Below W.heap.size W w') := Lib.hid (fun W hb => rowsOf_any T h g W (ht.below hb))
  have A0 : Hid (Below w.heap.size w (w.alloc (.cells (T.cells h).toArray 32))) := Lib.hid ((Below.refl _ _).alloc (Nat.le_refl _) _)
  have A1 : Hid (Lies (w.alloc (.cells (T.cells h).toArray 32)) ⟨w.heap.size, 0, none⟩ (T.cells h)) := Lib.hid (Row.lies_new w _ _)
  have MS : Hid (membS T g = SetM.of (rowsAt T g).1 ||| SetM.of (rowsAt T g).2) := Lib.hid rfl
  generalize membS T g = m at MS ⊢
  generalize rowsAt T g = y at MS RO
  obtain ⟨l0, l1⟩ := y
  clear ht
  generalize T.cells h = c at *
  go_enter Tryz.func111, Tryz.ntmps111
  go_upto_region 1 with fail
  generalize w.alloc (.cells c.toArray 32) = u at A0 A1 ⊢
  clear hsz
  go_wp2_with (refine Row.wpList_load_g 32 _ rfl (by first | rfl | go_simp) ⟨w.heap.size, 0, none⟩ rfl c _ A1.out Tryz.underlying32 rfl IA.out ?_)
  refine (RO.out _ A0.out).mono ?_
  rintro e u1 ⟨⟨a0, cap0⟩, ⟨a1, cap1⟩, rfl, hpair, hb⟩
  have B0 : Hid (Below w.heap.size w u1) := Lib.hid (A0.out.trans (hb.mono A0.out.size))
  have HP := Lib.hid hpair
  clear hb A0 A1 RO hpair IA
  rw [show (Value.agg #[Sl.val ⟨a0, cap0⟩ (l0, l1).fst.length, Sl.val ⟨a1, cap1⟩ (l0, l1).snd.length]) = .agg #[.slice a0 l0.length cap0, .slice a1 l1.length cap1] from rfl]
  have i0 := idx0 (.slice a0 l0.length cap0) (.slice a1 l1.length cap1)
  have i1 := idx1 (.slice a0 l0.length cap0) (.slice a1 l1.length cap1)
  have I0 := Lib.hid i0
  have I1 := Lib.hid i1
  clear i0 i1
  go_wp2_with fail
  go_loopw [5, 11] (fun t i wr => ∃ r : Nat, r ≤ 2 ∧ i = .int .i64 r ∧ t = .int .i64 ((if r = 0 then 0 else if r = 1 then SetM.of l0 else m : Nat) : Int) ∧ wr = u1) (fun _ i _ => 2 - (intOf i).toNat)
  case atStart => exact ⟨0, by omega, rfl, rfl, rfl⟩
  case round =>
    obtain ⟨r, hr, rfl, rfl, rfl⟩ := hrel
    have hr2 : r = 0 ∨ r = 1 ∨ r = 2 := by omega
    rcases hr2 with rfl | rfl | rfl
    · rw [show ((0 : Nat) : Int) = (0 : Int) from rfl]
      have i0 := I0.out
      have HS := Lib.hid (or0 (SetM.of l0) (SetM.of_lt l0))
      simp only [if_true]
      go_wp2_with fail
      refine (of_len a0 cap0 l0 _ HP.out.1).mono ?_
      rintro e w' ⟨rfl, rfl⟩
      generalize hs : SetM.of l0 = s at HS MS ⊢
      have HQ := Lib.hid hs
      clear hs
      go_wp2
      go_roundw
      case rel => exact ⟨1, by omega, by go_num, by rw [HS.out, ← HQ.out]; rfl, trivial⟩
      case measure => simp [intOf]
    · rw [show ((1 : Nat) : Int) = (1 : Int) from rfl]
      have i1 := I1.out
      have HS : Hid (bits .or .i64 (SetM.of l0 : Nat) (SetM.of l1 : Nat) = (m : Nat)) := Lib.hid (by rw [RefS.or_small _ _ (SetM.of_lt _) (SetM.of_lt _), MS.out])
      simp only [Nat.one_ne_zero, if_false, if_true]
      go_wp2_with fail
      refine (of_len a1 cap1 l1 _ HP.out.2).mono ?_
      rintro e w' ⟨rfl, rfl⟩
      generalize SetM.of l0 = s at HS MS ⊢
      generalize SetM.of l1 = s' at HS MS ⊢
      go_wp2
      go_roundw
      case rel => exact ⟨2, by omega, by go_num, by rw [HS.out]; rfl, trivial⟩
      case measure => simp [intOf]
    · rw [show ((2 : Nat) : Int) = (2 : Int) from rfl]
      simp only [show ¬ (2 = 0) by decide, show ¬ (2 = 1) by decide, if_false]
      go_wp2
      go_ret
      exact ⟨rfl, B0.out⟩
/-- The value of an array of phases, at one of its places. -/
theorem infoPs : (Tryz.prog.info? 25).map (·.size) = some 104 := by kernel_rfl
theorem cellsP : Tryz.prog.cellsOf 24 = 13 := by kernel_rfl
theorem rowP : Flat.rowT Tryz.prog 24 = true := by kernel_rfl
theorem infoPz : ∃ i, Tryz.prog.info? 24 = some i ∧ i.size = 13 := by
  have := infoP
  cases h : Tryz.prog.info? 24 with
  | none => rw [h] at this; simp at this
  | some i => rw [h] at this; exact ⟨i, rfl, by simpa using this⟩
theorem flat_take : ∀ {l : List Ph} {q : Nat} {u : Ph}, l[q]? = some u → ((l.flatMap Ph.cells).drop (q * 13)).take 13 = u.cells
  | [], q, u, h => by simp at h
  | p :: l, 0, u, h => by
    obtain rfl : p = u := by simpa using h
    rw [Nat.zero_mul, List.drop_zero, List.flatMap_cons]
    exact List.take_left' rfl
  | p :: l, q + 1, u, h => by
    rw [List.flatMap_cons, Nat.add_mul, Nat.one_mul, Nat.add_comm, List.drop_append, List.drop_of_length_le (by simp [Ph.cells]), List.nil_append, show 13 + q * 13 - p.cells.length = q * 13 by simp [Ph.cells]]
    exact flat_take (by simpa using h)
theorem idx_phase {l : List Ph} {q : Nat} {u : Ph} (hl : l.length = 8) (hu : l[q]? = some u) (w : World) :
    Sem.run Tryz.prog (Instr.index 25 (.agg (l.flatMap Ph.cells).toArray) (.int .i64 q)) w = .ok (.agg u.cells.toArray) w := by
  have hq : q < l.length := (List.getElem?_eq_some_iff.1 hu).1
  obtain ⟨i, hi, hs⟩ := infoPz
  have hp := Flat.run_part (P := Tryz.prog) w (t := 24) (d := _) Tryz.underlying24 (by rw [rowP]; simp) (l.flatMap Ph.cells) (q * 13) (by rw [cellsP, phases_len]; omega)
  rw [cellsP, Flat.vOf, if_pos rowP, flat_take hu] at hp
  unfold Instr.index
  have hc : 0 ≤ (q : Int) ∧ (q : Int) < 8 := by omega
  simp [run_underlying Tryz.underlying25, asIntOf]
  rw [if_pos (by omega)]
  first | exact hp | (rw [cellsP]; exact hp)
theorem lies_take {w : World} {b : Nat} {cs : Array Value} {t : TypeId} {fr : Nat × Nat} (hb : w.heap[b]? = some (.cells cs t fr)) (n : Nat) (l : List Value) (h : cs.toList.take n = l) : Lies w ⟨b, 0, none⟩ l := by
  intro j v hv
  rw [Addr.add_mid, Nat.zero_add, cell_of_row _ _ _ _ _ _ hb]
  subst h
  rw [List.getElem?_take] at hv
  split at hv
  · rwa [Array.getElem?_toList] at hv
  · cases hv
end Go.Proofs.YtjolhoilcibdfaaGreat.PlanC
/- The contract of plan.On. -/
namespace Go.Proofs.YtjolhoilcibdfaaGreat.PlanO
open Go.ChangeShapes Go.WideShapes Go.ChangeAt Go.RowKit
open Tab PlaceM PlanM OnS PlanC
open May (infoP St)
open SetP (with_any)
set_option linter.unusedVariables false
set_option linter.unusedSimpArgs false
theorem on_with {l : List Ph} {q : Nat} {p : Ph} (h : l[q]? = some p) (hp : p.on = true) : SetM.withN (SetM.of (onTo 0 (l.take q)) : Nat) q = SetM.of (onTo 0 (l.take (q + 1))) := by
  rw [on_step h, hp, if_pos rfl, SetM.with_of]
theorem on_skip {l : List Ph} {q : Nat} {p : Ph} (h : l[q]? = some p) (hp : p.on = false) : SetM.of (onTo 0 (l.take (q + 1))) = SetM.of (onTo 0 (l.take q)) := by
  rw [on_step h, hp]; simp
set_option maxRecDepth 100000 in
set_option maxHeartbeats 4000000 in
theorem pon_any (T : Tab) (h : Hd) (w : World) (ht : IsTab w h T) :
    Calls Tryz.prog 96 #[.agg (T.cells h).toArray] w fun e w' => e = .returned (.int .i64 (onS T : Nat)) ∧ Below w.heap.size w w' := by
  have C := Lib.hid (cells_ok ht)
  generalize (T.cells h).toArray = cs at C ⊢
  have hsz := C.out.size
  have L8 := Lib.hid ht.ph
  have S0 := Lib.hid (St.box (cs := cs) ht)
  have RS : Hid ((onS T : Nat) = SetM.of (onTo 0 T.phases)) := Lib.hid rfl
  have IX : Hid (∀ (q : Nat) u, T.phases[q]? = some u → ∀ W, Sem.run Tryz.prog (Instr.index 25 (.agg (T.phases.flatMap Ph.cells).toArray) (.int .i64 q)) W = .ok (.agg u.cells.toArray) W) := Lib.hid (fun q u hu W => idx_phase L8.out hu W)
  have LI : Hid ((Tryz.prog.info? 25).map (·.size) = some (T.phases.flatMap Ph.cells).length) := Lib.hid (by rw [phases_len, L8.out]; exact infoPs)
  generalize onS T = r at RS ⊢
  clear ht
  go_enter Tryz.func96, Tryz.ntmps96
  go_upto_region 1 with fail
  generalize w.alloc (.cells cs 32) = w1 at S0 ⊢
  clear hsz
  have LT : Hid (Lies w1 ⟨w.heap.size, 0, none⟩ (T.phases.flatMap Ph.cells)) := Lib.hid (lies_take S0.out.blk 104 _ C.out.phases)
  generalize T.phases.flatMap Ph.cells = fl at IX LI LT
  go_wp2_with (refine Row.wpList_load_g 25 _ rfl (by first | rfl | go_simp) ⟨w.heap.size, 0, none⟩ rfl fl _ LT.out Tryz.underlying25 rfl LI.out ?_)
  go_loopw [3, 8] (fun v g wr => ∃ q : Nat, q ≤ 8 ∧ g = .int .i64 q ∧ v = .int .i64 (SetM.of (onTo 0 (T.phases.take q)) : Nat) ∧ Below w1.heap.size w1 wr) (fun _ g _ => 8 - (intOf g).toNat)
  case atStart => exact ⟨0, by omega, rfl, rfl, Below.refl _ _⟩
  case round =>
    obtain ⟨q, hq, rfl, rfl, hbel⟩ := hrel
    have HB := Lib.hid hbel
    clear hbel
    by_cases hlt : q < 8
    · have hv : T.phases[q]? = some (T.phases[q]'(by rw [L8.out]; exact hlt)) := List.getElem?_eq_getElem _
      generalize T.phases[q]'(by rw [L8.out]; exact hlt) = u at hv
      have HV := Lib.hid hv
      have hidx := IX.out q u hv
      clear hv
      have hsz := HB.out.size
      go_upto_region 5 with (refine Row.wpList_store_new rfl 24 _ _ rfl wr _ u.cells.toArray rfl rfl rfl infoP rfl (Ph.one _) ?_)
      clear hidx
      have hbn : Below w1.heap.size w1 (wr.alloc (.cells u.cells.toArray 24)) := HB.out.alloc hsz _
      have hg := Row.lies_of_block (heap_alloc_new wr (.cells u.cells.toArray 24))
      have HL := Lib.hid hg
      have HN := Lib.hid hbn
      clear hg hbn HB
      generalize wr.alloc (.cells u.cells.toArray 24) = w4 at HL HN ⊢
      generalize wr.heap.size = b4 at HL ⊢
      have c0 : w4.cell? ⟨b4, 0, none⟩ = some (.bool u.on) := by
        have := HL.out 0 _ rfl
        rwa [Tab.add_zero] at this
      cases hon : u.on with
      | true =>
        rw [hon] at c0
        have HS := Lib.hid (on_with HV.out hon)
        clear hon
        generalize SetM.of (onTo 0 (T.phases.take q)) = s0 at HS ⊢
        go_wp2_with (go_at_call 124; refine (with_any _ _ _).mono ?_; rintro e w' ⟨rfl, rfl⟩)
        go_roundw
        case rel => exact ⟨q + 1, by omega, by go_num, by rw [← HS.out], HN.out⟩
        case measure => simp [intOf]; omega
      | false =>
        rw [hon] at c0
        have HS := Lib.hid (on_skip HV.out hon)
        clear hon
        generalize SetM.of (onTo 0 (T.phases.take q)) = s0 at HS ⊢
        go_wp2
        go_roundw
        case rel => exact ⟨q + 1, by omega, by go_num, by rw [← HS.out], HN.out⟩
        case measure => simp [intOf]; omega
    · have HE : Hid (SetM.of (onTo 0 (T.phases.take q)) = r) := Lib.hid (by rw [RS.out, List.take_of_length_le (by rw [L8.out]; omega)])
      have HF : Hid (Below w.heap.size w wr) := Lib.hid (S0.out.bel.trans (HB.out.mono S0.out.bel.size))
      generalize SetM.of (onTo 0 (T.phases.take q)) = s0 at HE ⊢
      go_wp2
      go_ret
      exact ⟨ret_int (by rw [HE.out]), HF.out⟩
end Go.Proofs.YtjolhoilcibdfaaGreat.PlanO
/- The contracts of package check's searches over sets: clash. -/
namespace Go.Proofs.YtjolhoilcibdfaaGreat.ChkI
open Go.RowKit Go.Shelf
open Tab PlaceM PlanM OnS ChkM Each Search
set_option linter.unusedVariables false
set_option linter.unusedSimpArgs false
attribute [local go_sem] Oper.semAt_some
/-- What a table's box gives: the conflicts and the flash of each phase. -/
structure Bxd (T : Tab) (b : Nat) (W : World) : Prop where
  cf : ∀ p : Int, 0 ≤ p → p < 8 → W.cell? ⟨b, 105 + p.toNat, none⟩ = some (I (cfAt T p))
  fl : ∀ p : Int, 0 ≤ p → p < 8 → W.cell? ⟨b, 121 + p.toNat, none⟩ = some (I (flAt T p))
theorem bxd_new {T : Tab} {h : Hd} {w : World} (ht : IsTab w h T) : Bxd T w.heap.size (w.alloc (.cells (T.cells h).toArray 32)) := by
  have C := cells_ok ht
  have hb : (w.alloc (.cells (T.cells h).toArray 32)).heap[w.heap.size]? = some (.cells (T.cells h).toArray 32 (0, 0)) := heap_alloc_new w _
  constructor
  · intro p h0 h8
    obtain ⟨k, rfl⟩ := Int.eq_ofNat_of_zero_le h0
    rw [cell_of_row _ _ _ _ _ _ hb]
    have hk : k < 8 := by omega
    have h1 := congrArg (·[k]?) C.conflict
    simp only [List.getElem?_take, List.getElem?_drop, List.getElem?_map] at h1
    rw [if_pos hk, Array.getElem?_toList] at h1
    rw [Int.toNat_natCast, h1, List.getElem?_eq_getElem (by rw [ht.cf]; exact hk)]
    simp [cfAt, List.getD_eq_getElem?_getD, List.getElem?_eq_getElem (show k < T.conflict.length by rw [ht.cf]; exact hk)]
  · intro p h0 h8
    obtain ⟨k, rfl⟩ := Int.eq_ofNat_of_zero_le h0
    rw [cell_of_row _ _ _ _ _ _ hb]
    have hk : k < 8 := by omega
    have h1 := congrArg (·[k]?) C.flash
    simp only [List.getElem?_take, List.getElem?_drop, List.getElem?_map] at h1
    rw [if_pos hk, Array.getElem?_toList] at h1
    rw [Int.toNat_natCast, h1, List.getElem?_eq_getElem (by rw [ht.fl]; exact hk)]
    simp [flAt, List.getD_eq_getElem?_getD, List.getElem?_eq_getElem (show k < T.flash.length by rw [ht.fl]; exact hk)]
theorem Bxd.below {T : Tab} {b : Nat} {W W' : World} (h : Bxd T b W) (hb : Below W.heap.size W W') : Bxd T b W' :=
  ⟨fun p h0 h8 => (hb.cell (World.block_lt_of_cell? W _ (h.cf p h0 h8))).trans (h.cf p h0 h8), fun p h0 h8 => (hb.cell (World.block_lt_of_cell? W _ (h.fl p h0 h8))).trans (h.fl p h0 h8)⟩
/-- Four blocks laid one behind the other. -/
theorem laid4 (w : World) (o0 o1 o2 o3 : Obj) : ∃ W, ((((w.alloc o0).alloc o1).alloc o2).alloc o3) = W ∧ W.heap.size = w.heap.size + 4 ∧ Below w.heap.size w W ∧ Below (w.heap.size + 1) (w.alloc o0) W ∧ W.heap[w.heap.size + 1]? = some o1 ∧ W.heap[w.heap.size + 2]? = some o2 ∧ W.heap[w.heap.size + 3]? = some o3 := by
  refine ⟨_, rfl, by simp, (((((Below.refl _ w).alloc (Nat.le_refl _) _).alloc (by simp) _).alloc (by simp; omega) _).alloc (by simp; omega) _), ?_, ?_, ?_, ?_⟩
  · have := (((Below.refl (w.alloc o0).heap.size (w.alloc o0)).alloc (Nat.le_refl _) o1).alloc (by simp) o2).alloc (by simp; try omega) o3
    simpa using this
  · have h1 := heap_alloc_new (w.alloc o0) o1
    have h2 := Below.heap_alloc ((w.alloc o0).alloc o1) o2 (w.heap.size + 1) (by simp)
    have h3 := Below.heap_alloc (((w.alloc o0).alloc o1).alloc o2) o3 (w.heap.size + 1) (by simp)
    rw [World.size_alloc] at h1
    exact h3.trans (h2.trans h1)
  · have h1 := heap_alloc_new ((w.alloc o0).alloc o1) o2
    have h3 := Below.heap_alloc (((w.alloc o0).alloc o1).alloc o2) o3 (w.heap.size + 2) (by simp)
    simp only [World.size_alloc] at h1
    exact h3.trans h1
  · have h1 := heap_alloc_new (((w.alloc o0).alloc o1).alloc o2) o3
    simp only [World.size_alloc] at h1
    exact h1
theorem setRow_grown (W : World) (b : Nat) (cs : Array Value) (h : b < W.heap.size) : W.grownBy (W.setRow b cs) (some b) :=
  ⟨rfl, rfl, rfl, by simp [World.setRow], fun j _ hj => setRow_other _ _ _ _ (fun e => hj (by rw [e]))⟩
theorem hmx : Tryz.prog.follows .mixedOrders = true := by kernel_rfl
set_option maxRecDepth 100000 in
set_option maxHeartbeats 2000000 in
theorem clash_any (T : Tab) (h : Hd) (s : Int) (w : World) (ht : IsTab w h T) :
    Calls Tryz.prog 116 #[.agg (T.cells h).toArray, .int .i64 s] w fun e w' => e = .returned (.bool (clashC T s)) ∧ Below w.heap.size w w' := by
  have hsz := (cells_ok ht).size
  have A0 : Hid (Below w.heap.size w (w.alloc (.cells (T.cells h).toArray 32))) := Lib.hid ((Below.refl _ _).alloc (Nat.le_refl _) _)
  have BX := Lib.hid (bxd_new ht)
  have hs1 : (w.alloc (.cells (T.cells h).toArray 32)).heap.size = w.heap.size + 1 := by simp
  clear ht
  generalize T.cells h = c at *
  refine (callsIn_wide (n := 3)).1 ?_
  refine callsIn_of_wp_marks Tryz.func116 rfl trivial ?_ rfl
  simp only [Tryz.ntmps116, List.size_toArray, List.length_cons, List.length_nil, Nat.reduceAdd, Nat.reduceSub, Array.replicate_succ, Array.replicate_zero, List.push_toArray, List.append_toArray, List.nil_append, List.cons_append]
  gi_wp2_with fail
  refine ⟨trivial, (Each.each_in _ _ _).mono ?_⟩
  rintro e w' ⟨rfl, rfl⟩
  gi_wp2_with fail
  obtain ⟨W0, hW0, E1, E0, EB, bS, bR, bE⟩ := laid4 w (.cells c.toArray 32) (.cells #[.int .i64 s] 3) (.cells #[.bool false] 4) (.cells #[.int .i64 s] 3)
  rw [hW0]
  have BX := Lib.hid (BX.out.below (by rw [hs1]; exact EB))
  clear hW0 EB hs1 hsz A0
  have bS : Boxed W0 (w.heap.size + 1) 3 (.int .i64 s) := bS
  have bR : Boxed W0 (w.heap.size + 2) 4 (.bool false) := bR
  have bE : Boxed W0 (w.heap.size + 3) 3 (.int .i64 s) := bE
  refine search (fun p => bits .and .i64 (cfAt T p) s != 0) (fun _ => .cells #[.bool true] 4 (0, 0)) (w.heap.size + 3) (w.heap.size + 2) s (by omega) rfl rfl (by omega) (by omega) bE.cell
    (fun x => { tmps := #[.agg c.toArray, .int .i64 s, .pointer (some ⟨w.heap.size, 0, none⟩), .pointer (some ⟨w.heap.size + 1, 0, none⟩), .pointer (some ⟨w.heap.size + 1 + 1, 0, none⟩), .int .i64 x, .int .i64 s, .func (.func 127) #[] #[.pointer (some ⟨w.heap.size + 1 + 1 + 1, 0, none⟩)], .int .i64 x, undef, undef, undef, undef, undef, undef, undef], defers := [] }) ?assign ?body ?done ?stop
  case assign =>
    intro l x W K hK
    gi_wp2
    exact hK
  case body =>
    intro l x W hx hB
    have hx8 := SetM.list_bd s x hx
    have cc := (BX.out.below hB).cf x hx8.1 hx8.2
    have cS := (Boxed.cell (show Boxed W (w.heap.size + 1) 3 (.int .i64 s) from (hB.block _ (by omega)).trans bS))
    have hne : Nonempty (Ph.S (Row.Old W)) := ⟨⟨0, W, Below.refl _ _⟩⟩
    obtain ⟨k, rfl⟩ := Int.eq_ofNat_of_zero_le hx8.1
    rw [Int.toNat_natCast] at cc
    have CC : ∀ p : Ph.S (Row.Old W), p.world.cell? ⟨w.heap.size, 105 + k, none⟩ = some (I (cfAt T k)) := fun p => (p.is.cell (World.block_lt_of_cell? W _ cc)).trans cc
    have CS : ∀ p : Ph.S (Row.Old W), p.world.cell? ⟨w.heap.size + 1, 0, none⟩ = some (.int .i64 s) := fun p => (p.is.cell (World.block_lt_of_cell? W _ cS)).trans cS
    have hk8 : k < 8 := by omega
    gi_wp2
    refine Up.region_ph (Row.Old W) [] (fun ⟨_, _, h⟩ => h) (by kernel_rfl) hmx (by kernel_rfl) (Row.Old.drew _) ?_
    iterate 7
      (refine Pw.calm rfl (fun K hK => ?_)
       go_simp
       refine hK _ ?_
       clear hK K)
    refine Pw.nil ?_
    intro W1 hb1
    have hv : Boxed W1 (w.heap.size + 1 + 1) 4 (.bool false) := (hb1.block _ (by have := hB.size; omega)).trans ((hB.block _ (by omega)).trans bR)
    have hc := hv.cell
    have hf := hv.frozen
    clear CC CS cc cS hne BX hB
    generalize hg : (bits BinOp.and IntKind.i64 (cfAt T k) s != 0) = r
    cases r with
    | true =>
      have HG := Lib.hid hg
      clear hg
      gi_wp2
      exact ⟨HG.out, grown_trans (grown_of_below hb1) (grownBy_setCell' _ _ _), hv.set (.bool true)⟩
    | false =>
      have HG := Lib.hid hg
      clear hg
      gi_wp2
      exact ⟨HG.out, hb1⟩
  case done =>
    intro D W hD hall hB hK
    have hv : Boxed W (w.heap.size + 1 + 1) 4 (.bool false) := (hB.block _ (by omega)).trans bR
    have hc := hv.cell
    have hf := hv.frozen
    have HR : Hid (clashC T s = false) := Lib.hid (by unfold clashC; rw [List.any_eq_false]; intro x hx; simpa using hall x hx)
    have HB : Hid (Below w.heap.size w W) := Lib.hid (E0.trans (hB.mono (by omega)))
    clear hB hall
    gi_wp2
    have hv2 := hv.set (.bool false)
    have hK' := (KeepsOthers.setCell W ⟨w.heap.size + 1 + 1, 0, none⟩ (.bool false)).same D _ hK rfl
    refine ⟨by simp, .inl ⟨_, _, rfl, run_takeDeferred hK', ?_⟩⟩
    have hc5 := cell_kept hv2.cell (grownBy_putObj' _ D (.deferred none)) (fun r e => by cases e; exact ⟨_, hK', rfl⟩)
    refine ⟨.bool false, ?_, by rw [HR.out], (HB.out.setCell (p := ⟨w.heap.size + 1 + 1, 0, none⟩) (by simp; try omega) _).trans (belowK_b (w := w) (Nat.le_refl _) _ D _ _ (by omega) hK' rfl rfl)⟩
    simp [results, Tryz.f116, go_sem, hc5]
  case stop =>
    intro D x W hD hf hx hg hR hK
    have HR : Hid (clashC T s = true) := Lib.hid (by unfold clashC; rw [List.any_eq_true]; exact ⟨x, List.mem_of_find?_eq_some hf, hx⟩)
    have hv : Boxed W (w.heap.size + 1 + 1) 4 (.bool true) := hR
    have HB : Hid (Below w.heap.size w W) := Lib.hid (E0.grown hg (by omega) (fun k e => by cases e; omega))
    clear hf hx hg
    gi_wp2
    refine ⟨by simp, .inl ⟨_, _, rfl, run_takeDeferred hK, ?_⟩⟩
    have hc5 := cell_kept hv.cell (grownBy_putObj' _ D (.deferred none)) (fun r e => by cases e; exact ⟨_, hK, rfl⟩)
    refine ⟨.bool true, ?_, by rw [HR.out], HB.out.trans (belowK_b (w := w) (Nat.le_refl _) W D _ _ (by omega) hK rfl rfl)⟩
    simp [results, Tryz.f116, go_sem, hc5]
end Go.Proofs.YtjolhoilcibdfaaGreat.ChkI
/- The contract of package check's badConflict. -/
namespace Go.Proofs.YtjolhoilcibdfaaGreat.ChkJ
open Go.RowKit Go.Shelf
open Tab PlaceM PlanM OnS ChkM Each Search ChkI
open May (infoT)
set_option linter.unusedVariables false
set_option linter.unusedSimpArgs false
attribute [local go_sem] Oper.semAt_some
/-- Three blocks laid one behind the other. -/
theorem laid3 (w : World) (o0 o1 o2 : Obj) : ∃ W, (((w.alloc o0).alloc o1).alloc o2) = W ∧ W.heap.size = w.heap.size + 3 ∧ Below w.heap.size w W ∧ Below (w.heap.size + 1) (w.alloc o0) W ∧ W.heap[w.heap.size + 1]? = some o1 ∧ W.heap[w.heap.size + 2]? = some o2 := by
  refine ⟨_, rfl, by simp, ((((Below.refl _ w).alloc (Nat.le_refl _) _).alloc (by simp) _).alloc (by simp; omega) _), ?_, ?_, ?_⟩
  · have := (((Below.refl (w.alloc o0).heap.size (w.alloc o0)).alloc (Nat.le_refl _) o1).alloc (by simp) o2)
    simpa using this
  · have h1 := heap_alloc_new (w.alloc o0) o1
    have h2 := Below.heap_alloc ((w.alloc o0).alloc o1) o2 (w.heap.size + 1) (by simp)
    rw [World.size_alloc] at h1
    exact h2.trans h1
  · have h1 := heap_alloc_new ((w.alloc o0).alloc o1) o2
    simp only [World.size_alloc] at h1
    exact h1
/-- What is bad of a phase q that is On, beside p. -/
def cbad (T : Tab) (p q : Int) : Bool := (SetM.has (cfAt T p) q != SetM.has (cfAt T q) p) || (SetM.has (cfAt T p) q && beside T p q)
theorem conf_self {T : Tab} {p : Int} (h : SetM.has (cfAt T p) p = true) : confBad T p = true := by unfold confBad; rw [h]; rfl
theorem conf_any {T : Tab} {p : Int} (h : SetM.has (cfAt T p) p = false) : confBad T p = (ons T).any (cbad T p) := by unfold confBad; rw [h]; rfl
set_option maxRecDepth 100000 in
set_option maxHeartbeats 4000000 in
theorem badConflict_any (T : Tab) (h : Hd) (k : Nat) (hk : k < 8) (w : World) (ht : IsTab w h T) :
    Calls Tryz.prog 77 #[.agg (T.cells h).toArray, .int .i64 k] w fun e w' => e = .returned (.bool (confBad T k)) ∧ Below w.heap.size w w' := by
  have hsz := (cells_ok ht).size
  have IA : Hid ((Tryz.prog.info? 32).map (·.size) = some (T.cells h).length) := Lib.hid (by rw [List.size_toArray] at hsz; rw [hsz]; exact infoT)
  have ON : Hid (∀ W, Below w.heap.size w W → Calls Tryz.prog 96 #[.agg (T.cells h).toArray] W fun e w' => e = .returned (.int .i64 (onS T : Nat)) ∧ Below W.heap.size W w') := Lib.hid (fun W hb => PlanO.pon_any T h W (ht.below hb))
  have BS : Hid (∀ (p q : Int) W, Below w.heap.size w W → Calls Tryz.prog 112 #[.agg (T.cells h).toArray, .int .i64 p, .int .i64 q] W fun e w' => e = .returned (.bool (beside T p q)) ∧ Below W.heap.size W w') := Lib.hid (fun p q W hb => PlanW.pbeside_any T h p q W (ht.below hb))
  have BX0 := Lib.hid (bxd_new ht)
  have LT0 := Lib.hid (Row.lies_new w (T.cells h).toArray 32)
  have hs1 : (w.alloc (.cells (T.cells h).toArray 32)).heap.size = w.heap.size + 1 := by simp
  clear ht
  generalize T.cells h = c at *
  refine (callsIn_wide (n := 3)).1 ?_
  refine callsIn_of_wp_marks Tryz.func77 rfl trivial ?_ rfl
  simp only [Tryz.ntmps77, List.size_toArray, List.length_cons, List.length_nil, Nat.reduceAdd, Nat.reduceSub, Array.replicate_succ, Array.replicate_zero, List.push_toArray, List.append_toArray, List.nil_append, List.cons_append]
  refine wpIn_wide.2 ?_
  go_upto_region 1 with fail
  obtain ⟨W1, hW1, E1, E0, EB, bS, bR⟩ := laid3 w (.cells c.toArray 32) (.cells #[.int .i64 k] 3) (.cells #[.bool false] 4)
  rw [hW1]
  have BX1 := Lib.hid (BX0.out.below (by rw [hs1]; exact EB))
  have LT1 := Lib.hid (LT0.out.below (by rw [hs1]; exact EB))
  have A0 := Lib.hid E0
  clear hW1 EB hs1 hsz BX0 LT0 E0
  have bS : Boxed W1 (w.heap.size + 1) 3 (.int .i64 k) := bS
  have bR : Boxed W1 (w.heap.size + 1 + 1) 4 (.bool false) := bR
  have cS := bS.cell
  have cc := BX1.out.cf k (by omega) (by omega)
  rw [Int.toNat_natCast] at cc
  have hne : Nonempty (Ph.S (Row.Old W1)) := ⟨⟨0, W1, Below.refl _ _⟩⟩
  have CC : ∀ p : Ph.S (Row.Old W1), p.world.cell? ⟨w.heap.size, 105 + k, none⟩ = some (I (cfAt T k)) := fun p => (p.is.cell (World.block_lt_of_cell? W1 _ cc)).trans cc
  have CS : ∀ p : Ph.S (Row.Old W1), p.world.cell? ⟨w.heap.size + 1, 0, none⟩ = some (.int .i64 k) := fun p => (p.is.cell (World.block_lt_of_cell? W1 _ cS)).trans cS
  refine Pw.region (Row.Old W1) [] hmx (by kernel_rfl) (Row.Old.drew _) ?_
  have hki : ((k : Nat) : Int) < 8 := by omega
  iterate 5
    (refine Pw.calm rfl (fun K hK => ?_)
     go_simp
     refine hK _ ?_
     clear hK K)
  (refine Pw.calm rfl (fun K hK => ?_)
   go_simp
   refine ⟨_, fun p => Row.Old.pure (SetP.has_any _ _ _), hK _ ?_⟩
   clear hK K)
  refine Pw.nil ?_
  intro W2 hb
  have B0 : Hid (Below w.heap.size w W2) := Lib.hid (A0.out.trans (hb.mono (by omega)))
  have bS2 : Boxed W2 (w.heap.size + 1) 3 (.int .i64 k) := (hb.block _ (by omega)).trans bS
  have bR2 : Boxed W2 (w.heap.size + 1 + 1) 4 (.bool false) := (hb.block _ (by omega)).trans bR
  have BX := Lib.hid (BX1.out.below hb)
  have LT := Lib.hid (LT1.out.below hb)
  have E2 : w.heap.size + 3 ≤ W2.heap.size := by have := hb.size; omega
  clear CC CS cc cS hne hb bS bR BX1 LT1 A0 E1
  cases hself : SetM.has (cfAt T k) k with
  | true =>
    have HR := Lib.hid (conf_self hself)
    clear hself
    have hc := bR2.cell
    have hf := bR2.frozen
    go_wp2
    have hv2 := bR2.set (.bool true)
    have hc5 := hv2.cell
    refine ⟨.bool true, ?_, by rw [HR.out], B0.out.setCell (p := ⟨w.heap.size + 1 + 1, 0, none⟩) (by simp; omega) _⟩
    simp [results, Tryz.f77, go_sem, hc5]
  | false =>
    have HR := Lib.hid (conf_any hself)
    clear hself
    go_wp2_with (refine Row.wpList_load_g 32 _ rfl (by first | rfl | go_simp) ⟨w.heap.size, 0, none⟩ rfl c _ LT.out Tryz.underlying32 rfl IA.out ?_)
    refine (ON.out _ B0.out).mono ?_
    rintro e W3 ⟨rfl, hb⟩
    go_wp2_with fail
    refine (callsIn_wide.1 (Each.each_in 3 _ _)).mono ?_
    rintro e w' ⟨rfl, rfl⟩
    go_wp2_with fail
    have hb4 : Below W2.heap.size W2 (W3.alloc (.cells #[.int .i64 (onS T : Nat)] 3)) := hb.alloc hb.size _
    have bE : Boxed (W3.alloc (.cells #[.int .i64 (onS T : Nat)] 3)) W3.heap.size 3 (.int .i64 (onS T : Nat)) := Boxed.new _ _ _
    have hsz3 : (W3.alloc (.cells #[.int .i64 (onS T : Nat)] 3)).heap.size = W3.heap.size + 1 := by simp
    have hs3 := hb.size
    generalize W3.alloc (.cells #[.int .i64 (onS T : Nat)] 3) = W4 at hb4 bE hsz3 ⊢
    have bS4 : Boxed W4 (w.heap.size + 1) 3 (.int .i64 k) := (hb4.block _ (by omega)).trans bS2
    have bR4 : Boxed W4 (w.heap.size + 1 + 1) 4 (.bool false) := (hb4.block _ (by omega)).trans bR2
    have BX4 := Lib.hid (BX.out.below hb4)
    have LT4 := Lib.hid (LT.out.below hb4)
    have C0 : Hid (Below w.heap.size w W4) := Lib.hid (B0.out.trans (hb4.mono B0.out.size))
    have E4 : w.heap.size + 3 < W4.heap.size := by omega
    clear hb hb4 bS2 bR2 BX LT B0 E2 hs3
    generalize W3.heap.size = be at *
    refine (wpIn_wide (n := 3)).1 ?_
    refine search (cbad T k) (fun _ => .cells #[.bool true] 4 (0, 0)) be (w.heap.size + 1 + 1) (onS T : Nat) (by omega) rfl rfl (by omega) (by omega) bE.cell
      (fun x => { tmps := #[.agg c.toArray, .int .i64 k, .pointer (some ⟨w.heap.size, 0, none⟩), .pointer (some ⟨w.heap.size + 1, 0, none⟩), .pointer (some ⟨w.heap.size + 1 + 1, 0, none⟩), .int .i64 x, undef, .int .i64 k, .pointer (some ⟨w.heap.size, 105, none⟩), .pointer (some ⟨w.heap.size, 105 + k, none⟩), I (cfAt T k), .int .i64 k, .bool false, .agg c.toArray, .int .i64 (onS T : Nat), .func (.func 127) #[] #[.pointer (some ⟨be, 0, none⟩)], .int .i64 x, undef, undef, undef, undef, undef, undef, undef, undef, undef, undef, undef, undef, undef, undef, undef, undef, undef, undef, undef, undef, undef, undef, undef], defers := [] }) ?assign ?body ?done ?stop
    case assign =>
      intro l x W K hK
      gi_wp2
      exact hK
    case body =>
      intro l x W hx hB
      have hx8 := SetM.list_bd _ x hx
      have BXW := BX4.out.below hB
      have cc := BXW.cf x hx8.1 hx8.2
      have ck := BXW.cf k (by omega) (by omega)
      rw [Int.toNat_natCast] at ck
      have cS := (Boxed.cell (show Boxed W (w.heap.size + 1) 3 (.int .i64 k) from (hB.block _ (by omega)).trans bS4))
      have LTW := Lib.hid (LT4.out.below hB)
      have BW : Hid (Below w.heap.size w W) := Lib.hid (C0.out.trans (hB.mono C0.out.size))
      have hvR : Boxed W (w.heap.size + 1 + 1) 4 (.bool false) := (hB.block _ (by omega)).trans bR4
      have HV := Lib.hid hvR
      obtain ⟨j, rfl⟩ := Int.eq_ofNat_of_zero_le hx8.1
      rw [Int.toNat_natCast] at cc
      have hj8 : ((j : Nat) : Int) < 8 := hx8.2
      have hjn : j < 8 := by omega
      have CB : Hid (cbad T k j = _) := Lib.hid (by unfold cbad; rfl)
      have CC : ∀ p : Ph.S (Row.Old W), p.world.cell? ⟨w.heap.size, 105 + j, none⟩ = some (I (cfAt T j)) := fun p => (p.is.cell (World.block_lt_of_cell? W _ cc)).trans cc
      have CS : ∀ p : Ph.S (Row.Old W), p.world.cell? ⟨w.heap.size + 1, 0, none⟩ = some (.int .i64 k) := fun p => (p.is.cell (World.block_lt_of_cell? W _ cS)).trans cS
      have CH := Lib.hid CC
      have CSH := Lib.hid CS
      have BSW : Hid (∀ p : Ph.S (Row.Old W), Calls Tryz.prog 112 #[.agg c.toArray, .int .i64 k, .int .i64 j] p.world fun e w' => e = .returned (.bool (beside T k j)) ∧ Below p.world.heap.size p.world w') := Lib.hid (fun p => BS.out k j _ (BW.out.trans (p.is.mono BW.out.size)))
      clear cc CC CS hB BXW bE bS4 bR4 hvR
      obtain ⟨a, ha⟩ : ∃ a, SetM.has (cfAt T k) j = a := ⟨_, rfl⟩
      obtain ⟨b, hb'⟩ : ∃ b, SetM.has (cfAt T j) k = b := ⟨_, rfl⟩
      gi_wp2_with (refine ⟨trivial, ?_⟩; gi_at_call 95; refine (CallsIn.inRound l (callsIn_wide.2 (SetP.has_any _ _ _))).mono ?_; rintro e w' ⟨rfl, rfl⟩; rw [ha])
      have hne : Nonempty (Ph.S (Row.Old W)) := ⟨⟨0, W, Below.refl _ _⟩⟩
      have CC := CH.out
      have CS := CSH.out
      refine Up.region_ph (Row.Old W) [] (fun ⟨_, _, h⟩ => h) (by kernel_rfl) hmx (by kernel_rfl) (Row.Old.drew _) ?_
      iterate 6
        (refine Pw.calm rfl (fun K hK => ?_)
         go_simp
         refine hK _ ?_
         clear hK K)
      (refine Pw.calm rfl (fun K hK => ?_)
       go_simp
       refine ⟨_, fun p => Row.Old.pure (SetP.has_any _ _ _), hK _ ?_⟩
       clear hK K)
      rw [hb']
      cases a with
      | false =>
        cases b with
        | false =>
          have HCB : Hid (cbad T k j = false) := Lib.hid (by rw [CB.out, ha, hb']; rfl)
          clear ha hb' CB
          iterate 4
            (refine Pw.calm rfl (fun K hK => ?_)
             go_simp
             refine hK _ ?_
             clear hK K)
          refine Pw.skips 4 (by kernel_rfl) ?_
          (try simp only [List.take_succ_cons, List.take_zero, List.drop_succ_cons, List.drop_zero, Pw.undefs])
          (try dsimp only [Act.put])
          (try simp only [List.setIfInBounds_toArray, List.set_cons_zero, List.set_cons_succ])
          iterate 2
            (refine Pw.calm rfl (fun K hK => ?_)
             go_simp
             refine hK _ ?_
             clear hK K)
          refine Pw.nil ?_
          intro Wz hbz
          have hv : Boxed Wz (w.heap.size + 1 + 1) 4 (.bool false) := (hbz.block _ HV.out.lt).trans HV.out
          have hc := hv.cell
          have hf := hv.frozen
          clear CC CS hne
          gi_wp2
          exact ⟨HCB.out, hbz⟩
        | true =>
          have HCB : Hid (cbad T k j = true) := Lib.hid (by rw [CB.out, ha, hb']; rfl)
          clear ha hb' CB
          iterate 2
            (refine Pw.calm rfl (fun K hK => ?_)
             go_simp
             refine hK _ ?_
             clear hK K)
          refine Pw.skips 7 (by kernel_rfl) ?_
          (try simp only [List.take_succ_cons, List.take_zero, List.drop_succ_cons, List.drop_zero, Pw.undefs])
          (try dsimp only [Act.put])
          (try simp only [List.setIfInBounds_toArray, List.set_cons_zero, List.set_cons_succ])
          iterate 1
            (refine Pw.calm rfl (fun K hK => ?_)
             go_simp
             refine hK _ ?_
             clear hK K)
          refine Pw.nil ?_
          intro Wz hbz
          have hv : Boxed Wz (w.heap.size + 1 + 1) 4 (.bool false) := (hbz.block _ HV.out.lt).trans HV.out
          have hc := hv.cell
          have hf := hv.frozen
          clear CC CS hne
          gi_wp2
          exact ⟨HCB.out, grown_trans (grown_of_below hbz) (grownBy_setCell' _ _ _), hv.set (.bool true)⟩
      | true =>
        cases b with
        | false =>
          have HCB : Hid (cbad T k j = true) := Lib.hid (by rw [CB.out, ha, hb']; rfl)
          clear ha hb' CB
          iterate 2
            (refine Pw.calm rfl (fun K hK => ?_)
             go_simp
             refine hK _ ?_
             clear hK K)
          refine Pw.skips 7 (by kernel_rfl) ?_
          (try simp only [List.take_succ_cons, List.take_zero, List.drop_succ_cons, List.drop_zero, Pw.undefs])
          (try dsimp only [Act.put])
          (try simp only [List.setIfInBounds_toArray, List.set_cons_zero, List.set_cons_succ])
          iterate 1
            (refine Pw.calm rfl (fun K hK => ?_)
             go_simp
             refine hK _ ?_
             clear hK K)
          refine Pw.nil ?_
          intro Wz hbz
          have hv : Boxed Wz (w.heap.size + 1 + 1) 4 (.bool false) := (hbz.block _ HV.out.lt).trans HV.out
          have hc := hv.cell
          have hf := hv.frozen
          clear CC CS hne
          gi_wp2
          exact ⟨HCB.out, grown_trans (grown_of_below hbz) (grownBy_setCell' _ _ _), hv.set (.bool true)⟩
        | true =>
          have HCB0 : Hid (cbad T k j = beside T k j) := Lib.hid (by rw [CB.out, ha, hb']; simp)
          clear ha hb' CB
          obtain ⟨bs, hbs⟩ : ∃ x, beside T k j = x := ⟨_, rfl⟩
          iterate 4
            (refine Pw.calm rfl (fun K hK => ?_)
             go_simp
             refine hK _ ?_
             clear hK K)
          refine Pw.load rfl (by rfl) 32 _ rfl ⟨w.heap.size, 0, none⟩ rfl c _ (fun p => LTW.out.below p.is) Tryz.underlying32 rfl IA.out ?_
          (try dsimp only [Act.put]); (try simp only [List.setIfInBounds_toArray, List.set_cons_zero, List.set_cons_succ])
          iterate 2
            (refine Pw.calm rfl (fun K hK => ?_)
             go_simp
             refine hK _ ?_
             clear hK K)
          (refine Pw.calm rfl (fun K hK => ?_)
           go_simp
           refine ⟨_, fun p => Row.Old.call (BSW.out p), hK _ ?_⟩
           clear hK K)
          rw [hbs]
          have HCB : Hid (cbad T k j = bs) := Lib.hid (HCB0.out.trans hbs)
          clear hbs HCB0
          cases bs with
          | true =>
            iterate 2
              (refine Pw.calm rfl (fun K hK => ?_)
               go_simp
               refine hK _ ?_
               clear hK K)
            refine Pw.nil ?_
            intro Wz hbz
            have hv : Boxed Wz (w.heap.size + 1 + 1) 4 (.bool false) := (hbz.block _ HV.out.lt).trans HV.out
            have hc := hv.cell
            have hf := hv.frozen
            clear CC CS hne
            gi_wp2
            exact ⟨HCB.out, grown_trans (grown_of_below hbz) (grownBy_setCell' _ _ _), hv.set (.bool true)⟩
          | false =>
            iterate 2
              (refine Pw.calm rfl (fun K hK => ?_)
               go_simp
               refine hK _ ?_
               clear hK K)
            refine Pw.nil ?_
            intro Wz hbz
            have hv : Boxed Wz (w.heap.size + 1 + 1) 4 (.bool false) := (hbz.block _ HV.out.lt).trans HV.out
            have hc := hv.cell
            have hf := hv.frozen
            clear CC CS hne
            gi_wp2
            exact ⟨HCB.out, hbz⟩
    case done =>
      intro D W hD hall hB hK
      have hv : Boxed W (w.heap.size + 1 + 1) 4 (.bool false) := (hB.block _ (by omega)).trans bR4
      have hc := hv.cell
      have hf := hv.frozen
      have HR2 : Hid (confBad T k = false) := Lib.hid (by rw [HR.out, List.any_eq_false]; intro x hx; simpa using hall x hx)
      have HB : Hid (Below w.heap.size w W) := Lib.hid (C0.out.trans (hB.mono C0.out.size))
      clear hB hall
      go_wp2
      have hv2 := hv.set (.bool false)
      have hK' := (KeepsOthers.setCell W ⟨w.heap.size + 1 + 1, 0, none⟩ (.bool false)).same D _ hK rfl
      refine ⟨by simp, .inl ⟨_, _, rfl, run_takeDeferred hK', ?_⟩⟩
      have hc5 := cell_kept hv2.cell (grownBy_putObj' _ D (.deferred none)) (fun r e => by cases e; exact ⟨_, hK', rfl⟩)
      refine ⟨.bool false, ?_, by rw [HR2.out], (HB.out.setCell (p := ⟨w.heap.size + 1 + 1, 0, none⟩) (by simp; omega) _).trans (belowK_b (w := w) (Nat.le_refl _) _ D _ _ (by omega) hK' rfl rfl)⟩
      simp [results, Tryz.f77, go_sem, hc5]
    case stop =>
      intro D x W hD hf hx hg hR hK
      have HR2 : Hid (confBad T k = true) := Lib.hid (by rw [HR.out, List.any_eq_true]; exact ⟨x, List.mem_of_find?_eq_some hf, hx⟩)
      have hv : Boxed W (w.heap.size + 1 + 1) 4 (.bool true) := hR
      have HB : Hid (Below w.heap.size w W) := Lib.hid (C0.out.grown hg (by omega) (fun k e => by cases e; omega))
      clear hf hx hg
      gi_wp2
      refine ⟨by simp, .inl ⟨_, _, rfl, run_takeDeferred hK, ?_⟩⟩
      have hc5 := cell_kept hv.cell (grownBy_putObj' _ D (.deferred none)) (fun r e => by cases e; exact ⟨_, hK, rfl⟩)
      refine ⟨.bool true, ?_, by rw [HR2.out], HB.out.trans (belowK_b (w := w) (Nat.le_refl _) W D _ _ (by omega) hK rfl rfl)⟩
      simp [results, Tryz.f77, go_sem, hc5]
end Go.Proofs.YtjolhoilcibdfaaGreat.ChkJ
/- The contracts of package check's small functions: allOn, the lists of a table, ranges. -/
namespace Go.Proofs.YtjolhoilcibdfaaGreat.ChkA
open Go.ChangeShapes Go.WideShapes Go.ChangeAt Go.RowKit
open Tab PlaceM PlanM OnS ChkM
open May (ret_bool infoT St ints_in phases_in)
set_option linter.unusedVariables false
set_option linter.unusedSimpArgs false
set_option maxRecDepth 100000 in
set_option maxHeartbeats 4000000 in
theorem allOn_any (T : Tab) (h : Hd) (s : Int) (w : World) (ht : IsTab w h T) :
    Calls Tryz.prog 115 #[.agg (T.cells h).toArray, .int .i64 s] w fun e w' => e = .returned (.bool (allOn T s)) ∧ Below w.heap.size w w' := by
  have hsz := (cells_ok ht).size
  have IA : Hid ((Tryz.prog.info? 32).map (·.size) = some (T.cells h).length) := Lib.hid (by rw [List.size_toArray] at hsz; rw [hsz]; exact infoT)
  have ON : Hid (∀ W, Below w.heap.size w W → Calls Tryz.prog 96 #[.agg (T.cells h).toArray] W fun e w' => e = .returned (.int .i64 (onS T : Nat)) ∧ Below W.heap.size W w') := Lib.hid (fun W hb => PlanO.pon_any T h W (ht.below hb))
  have A0 : Hid (Below w.heap.size w (w.alloc (.cells (T.cells h).toArray 32))) := Lib.hid ((Below.refl _ _).alloc (Nat.le_refl _) _)
  have A1 : Hid (Lies (w.alloc (.cells (T.cells h).toArray 32)) ⟨w.heap.size, 0, none⟩ (T.cells h)) := Lib.hid (Row.lies_new w _ _)
  have HR : Hid (allOn T s = (bits .andNot .i64 s (onS T : Nat) == 0)) := Lib.hid rfl
  generalize allOn T s = r at HR ⊢
  generalize onS T = m at HR ON
  clear ht
  generalize T.cells h = c at *
  go_enter Tryz.func115, Tryz.ntmps115
  go_upto_region 1 with fail
  generalize w.alloc (.cells c.toArray 32) = u at A0 A1 ⊢
  clear hsz
  go_wp2_with (refine Row.wpList_load_g 32 _ rfl (by first | rfl | go_simp) ⟨w.heap.size, 0, none⟩ rfl c _ A1.out Tryz.underlying32 rfl IA.out ?_)
  refine (ON.out _ A0.out).mono ?_
  rintro e u1 ⟨rfl, hb⟩
  have B0 : Hid (Below w.heap.size w u1) := Lib.hid (A0.out.trans (hb.mono A0.out.size))
  clear hb A0 A1 ON
  go_wp2
  go_ret
  exact ⟨ret_bool (by rw [HR.out]), B0.out⟩
set_option maxRecDepth 100000 in
set_option maxHeartbeats 4000000 in
theorem listD_any (T : Tab) (h : Hd) (w : World) (ht : IsTab w h T) :
    Calls Tryz.prog 79 #[.agg (T.cells h).toArray] w fun e w' => e = .returned (h.d.val T.dets.length) ∧ Below w.heap.size w w' := by
  have S0 := Lib.hid (St.box (cs := (T.cells h).toArray) ht)
  have hsz := (cells_ok ht).size
  have q := (St.box (cs := (T.cells h).toArray) ht).cell (cells_ok ht).d
  generalize (T.cells h).toArray = cs at *
  clear ht
  go_enter Tryz.func79, Tryz.ntmps79
  go_upto_region 1 with fail
  generalize w.alloc (.cells cs 32) = w1 at S0 q ⊢
  clear hsz
  go_wp2
  go_ret
  exact ⟨rfl, S0.out.bel⟩
set_option maxRecDepth 100000 in
set_option maxHeartbeats 4000000 in
theorem listR_any (T : Tab) (h : Hd) (w : World) (ht : IsTab w h T) :
    Calls Tryz.prog 82 #[.agg (T.cells h).toArray] w fun e w' => e = .returned (h.r.val T.rails.length) ∧ Below w.heap.size w w' := by
  have S0 := Lib.hid (St.box (cs := (T.cells h).toArray) ht)
  have hsz := (cells_ok ht).size
  have q := (St.box (cs := (T.cells h).toArray) ht).cell (cells_ok ht).r
  generalize (T.cells h).toArray = cs at *
  clear ht
  go_enter Tryz.func82, Tryz.ntmps82
  go_upto_region 1 with fail
  generalize w.alloc (.cells cs 32) = w1 at S0 q ⊢
  clear hsz
  go_wp2
  go_ret
  exact ⟨rfl, S0.out.bel⟩
set_option maxRecDepth 100000 in
set_option maxHeartbeats 4000000 in
theorem listB_any (T : Tab) (h : Hd) (w : World) (ht : IsTab w h T) :
    Calls Tryz.prog 85 #[.agg (T.cells h).toArray] w fun e w' => e = .returned (h.b.val T.buses.length) ∧ Below w.heap.size w w' := by
  have S0 := Lib.hid (St.box (cs := (T.cells h).toArray) ht)
  have hsz := (cells_ok ht).size
  have q := (St.box (cs := (T.cells h).toArray) ht).cell (cells_ok ht).b
  generalize (T.cells h).toArray = cs at *
  clear ht
  go_enter Tryz.func85, Tryz.ntmps85
  go_upto_region 1 with fail
  generalize w.alloc (.cells cs 32) = w1 at S0 q ⊢
  clear hsz
  go_wp2
  go_ret
  exact ⟨rfl, S0.out.bel⟩
/-! ### the numbers of a rail -/
theorem rail_cells (r : Rl) (w : World) (b : Nat) (hb : w.heap[b]? = some (.cells r.cells.toArray 47 (0, 0))) :
    w.cell? ⟨b, 0, none⟩ = some (I r.bars) ∧ w.cell? ⟨b, 1, none⟩ = some (I r.clear) ∧ w.cell? ⟨b, 2, none⟩ = some (I r.dwell) ∧ w.cell? ⟨b, 3, none⟩ = some (I r.exit) ∧ w.cell? ⟨b, 4, none⟩ = some (I r.delay) ∧ w.cell? ⟨b, 5, none⟩ = some (I r.green) ∧ w.cell? ⟨b, 7, none⟩ = some (I r.hold) ∧ w.cell? ⟨b, 8, none⟩ = some (I r.stay) ∧ w.cell? ⟨b, 9, none⟩ = some (I r.most) ∧ w.cell? ⟨b, 10, none⟩ = some (I r.limit) := by
  refine ⟨?_, ?_, ?_, ?_, ?_, ?_, ?_, ?_, ?_, ?_⟩ <;> (rw [cell_of_row _ _ _ _ _ _ hb]; rfl)
set_option maxRecDepth 100000 in
set_option maxHeartbeats 4000000 in
theorem badTimes_any (r : Rl) (w : World) :
    Calls Tryz.prog 118 #[.agg r.cells.toArray] w fun e w' => e = .returned (.bool (timesBad r)) ∧ Below w.heap.size w w' := by
  have A0 : Hid (Below w.heap.size w (w.alloc (.cells r.cells.toArray 47))) := Lib.hid ((Below.refl _ _).alloc (Nat.le_refl _) _)
  obtain ⟨q0, q1, q2, q3, q4, q5, q7, q8, q9, q10⟩ := rail_cells r _ _ (heap_alloc_new w (.cells r.cells.toArray 47))
  have HR : Hid (timesBad r = _) := Lib.hid (by unfold timesBad; rfl)
  generalize timesBad r = x at HR ⊢
  have hone := Rl.one r
  have hsz : r.cells.toArray.size = 11 := rfl
  generalize r.cells.toArray = cs at *
  obtain ⟨bars, clear, dwell, exit, delay, green, foot, hold, stay, most, limit⟩ := r
  simp only at *
  go_enter Tryz.func118, Tryz.ntmps118
  go_upto_region 1 with fail
  generalize w.alloc (.cells cs 47) = u at *
  clear q0 q2 q3 hone hsz
  go_wp2
  all_goals go_ret
  all_goals (refine ⟨ret_bool ?_, A0.out⟩)
  all_goals (rw [HR.out])
  all_goals (clear HR q1 q4 q5 q7 q8 q9 q10 A0)
  all_goals (first | grind | (simp_all <;> omega))
end Go.Proofs.YtjolhoilcibdfaaGreat.ChkA
