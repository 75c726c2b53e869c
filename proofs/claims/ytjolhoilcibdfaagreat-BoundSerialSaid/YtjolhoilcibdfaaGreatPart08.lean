/- 13 texts in one file, in build order. -/
import Derived.Test.YtjolhoilcibdfaaGreatRows
import Derived.Test.YtjolhoilcibdfaaGreatPart04
import Derived.Test.YtjolhoilcibdfaaGreatPart01
import Derived.WalkKit
import Derived.ProofKit
import Derived.IntWalk
import Derived.Lib.Hide
import Derived.LoopTactic
import Derived.Below
import Derived.Test.YtjolhoilcibdfaaGreatPart05
import Derived.Test.YtjolhoilcibdfaaGreatPart02
import Derived.Deep.Cut
import Derived.Laws.ResultCell
import Derived.Laws.Rows
import Derived.Test.YtjolhoilcibdfaaGreatPart06
import Derived.WalkMore
import Derived.Great.BuildSlice
import Derived.Test.YtjolhoilcibdfaaGreatPart03
import Derived.RangeFuncCalls
import Derived.OrdersIn
import Derived.TacticsIn
import Derived.RangeFuncNested
import Derived.RangeFuncBound
import Derived.RangeFuncLeaves
import Derived.RangeFuncBox
import Derived.Shelf.Abstract
import Derived.Shelf.RegionOpen
import Derived.OwnWalkIn
import Derived.TacticsInMore
import Derived.LoopNIn
import Derived.LoopIn
import Derived.Maps.AppendAt
set_option linter.unusedVariables false
set_option linter.unusedSimpArgs false
set_option linter.unusedSectionVars false
/- The contracts of package sat: limit, Cap, wide, Add, Mul, Full, Sum. At all integers and rows of integers. -/
namespace Go.Proofs.YtjolhoilcibdfaaGreat.BdS
open Go.ChangeShapes Go.WideShapes Go.ChangeAt Go.RowKit
open RefC
set_option linter.unusedVariables false
set_option linter.unusedSimpArgs false
set_option maxHeartbeats 400000 in
theorem limit_any (n : Int) (w : World) : Calls Tryz.prog 101 #[.int .i64 n] w fun e w' => e = .returned (.int .i64 (cap n)) ∧ w = w' := by
  by_cases h1 : n < 0
  · go_enter Tryz.func101, Tryz.ntmps101
    go_wp2
    go_ret
    exact ⟨ret_int (cap_neg h1).symm, rfl⟩
  by_cases h2 : 2147483647 < n
  · go_enter Tryz.func101, Tryz.ntmps101
    go_wp2
    go_ret
    exact ⟨ret_int (cap_big h2).symm, rfl⟩
  · go_enter Tryz.func101, Tryz.ntmps101
    go_wp2
    go_ret
    exact ⟨ret_int (cap_in (by omega) (by omega)).symm, rfl⟩
theorem cap_any (n : Int) (w : World) : Calls Tryz.prog 126 #[.int .i64 n] w fun e w' => e = .returned (.int .i64 (cap n)) ∧ w = w' := by
  go_enter Tryz.func126, Tryz.ntmps126
  go_wp2_with (go_at_call 101; refine (limit_any _ _).mono ?_; rintro e w' ⟨rfl, rfl⟩)
  go_ret
  exact ⟨rfl, rfl⟩
theorem wide_any (n : Int) (w : World) : Calls Tryz.prog 102 #[.int .i64 n] w fun e w' => e = .returned (.int .i64 (cap n)) ∧ w = w' := by
  have b1 := cap_lo n
  have b2 := cap_hi n
  go_enter Tryz.func102, Tryz.ntmps102
  go_wp2_with (go_at_call 126; refine (cap_any _ _).mono ?_; rintro e w' ⟨rfl, rfl⟩)
  go_ret
  exact ⟨rfl, rfl⟩
set_option maxHeartbeats 400000 in
theorem add_any (a b : Int) (w : World) : Calls Tryz.prog 97 #[.int .i64 a, .int .i64 b] w fun e w' => e = .returned (.int .i64 (add a b)) ∧ w = w' := by
  have b1 := cap_lo a
  have b2 := cap_hi a
  have b3 := cap_lo b
  have b4 := cap_hi b
  go_enter Tryz.func97, Tryz.ntmps97
  go_wp2_with (first | (go_at_call 102; refine (wide_any _ _).mono ?_; rintro e w' ⟨rfl, rfl⟩) | (go_at_call 101; refine (limit_any _ _).mono ?_; rintro e w' ⟨rfl, rfl⟩))
  go_ret
  exact ⟨rfl, rfl⟩
set_option maxHeartbeats 400000 in
theorem mul_any (a b : Int) (w : World) : Calls Tryz.prog 64 #[.int .i64 a, .int .i64 b] w fun e w' => e = .returned (.int .i64 (mul a b)) ∧ w = w' := by
  have b1 := cap_lo a
  have b2 := cap_hi a
  have b3 := cap_lo b
  have b4 := cap_hi b
  obtain ⟨c1, c2⟩ := mul_bd b1 b2 b3 b4
  go_enter Tryz.func64, Tryz.ntmps64
  go_wp2_with (first | (go_at_call 102; refine (wide_any _ _).mono ?_; rintro e w' ⟨rfl, rfl⟩) | (go_at_call 101; refine (limit_any _ _).mono ?_; rintro e w' ⟨rfl, rfl⟩))
  go_ret
  exact ⟨rfl, rfl⟩
def full (n : Int) : Bool := decide (2147483647 ≤ n)
theorem full_any (n : Int) (w : World) : Calls Tryz.prog 106 #[.int .i64 n] w fun e w' => e = .returned (.bool (full n)) ∧ w = w' := by
  go_enter Tryz.func106, Tryz.ntmps106
  go_wp2
  go_ret
  exact ⟨rfl, rfl⟩
set_option maxHeartbeats 400000 in
theorem sum_any (a : Option Addr) (len cap : Nat) (zs : List Int) (w : World) (h : IsRow w a len zs) :
    Calls Tryz.prog 58 #[.slice a len cap] w fun e w' => e = .returned (.int .i64 (sums (zs.take len))) ∧ w = w' := by
  obtain ⟨h1, h2, h3⟩ := h
  unfold maxLen at h2
  go_enter Tryz.func58, Tryz.ntmps58
  go_wp2
  go_loop [3, 8] (fun t i => ∃ k : Nat, k ≤ len ∧ i = .int .i64 k ∧ t = .int .i64 (sums (zs.take k))) (fun _ i => len - (intOf i).toNat)
  case atStart => exact ⟨0, Nat.zero_le _, rfl, rfl⟩
  case round =>
    obtain ⟨k, hk, rfl, rfl⟩ := hrel
    by_cases hlt : k < len
    · have HS := Lib.hid (sums_take zs k (by omega))
      obtain ⟨x, rfl, hc⟩ : ∃ x, a = some x ∧ ∀ i, i < zs.length → w.cell? (x.add i) = some (.int .i64 (zs.getD i 0)) := by
        rcases h3 with h3 | h3
        · omega
        · exact h3
      have hcell := hc k (by omega)
      clear hc h3
      go_wp2_with (go_at_call 97; refine (add_any _ _ _).mono ?_; rintro e w' ⟨rfl, rfl⟩)
      go_round
      case rel => exact ⟨k + 1, by omega, by go_num, by rw [HS.out, List.getD_eq_getElem?_getD]⟩
      case measure => simp [intOf]; omega
    · go_wp2
      go_ret
      have : k = len := by omega
      subst this
      exact ⟨rfl, rfl⟩
open Tab in
theorem sum_row (a : Option Addr) (cap : Nat) (L : List Int) (n : Nat) (hn : L.length = n) (w : World) (h : IntRow w ⟨a, cap⟩ L) :
    Calls Tryz.prog 58 #[.slice a n cap] w fun e w' => e = .returned (.int .i64 (sums L)) ∧ w = w' := by
  subst hn
  have := sum_any a L.length cap L w (is_row h)
  rwa [List.take_length] at this
end Go.Proofs.YtjolhoilcibdfaaGreat.BdS
/- The contracts of package set's bit, Has, With and Of, at all integers and slices of integers (the part of XSet and XSetR that needs no iterator). -/
namespace Go.Proofs.YtjolhoilcibdfaaGreat.SetP
open Go.ChangeShapes Go.WideShapes Go.ChangeAt Go.RowKit
open Go.Proofs.YtjolhoilcibdfaaGreat
set_option linter.unusedVariables false

theorem ret_int {k : IntKind} {a b : Int} (h : a = b) : Ending.returned (.int k a) = .returned (.int k b) := by rw [h]
theorem ret_bool {a b : Bool} (h : a = b) : Ending.returned (.bool a) = .returned (.bool b) := by rw [h]

theorem eight {p : Int} (h : 0 ≤ p) (h' : p < 8) : p = 0 ∨ p = 1 ∨ p = 2 ∨ p = 3 ∨ p = 4 ∨ p = 5 ∨ p = 6 ∨ p = 7 := by omega

set_option maxHeartbeats 400000 in
theorem bit_any (p : Int) (w : World) : Calls Tryz.prog 123 #[.int .i64 p] w fun e w' => e = .returned (.int .i64 (SetM.bit p)) ∧ w = w' := by
  by_cases h1 : p < 0
  · have HB := Lib.hid (SetM.bit_out (p := p) (by omega))
    go_enter Tryz.func123, Tryz.ntmps123
    go_wp2
    go_ret
    exact ⟨ret_int (by rw [HB.out]; rfl), rfl⟩
  by_cases h2 : 8 ≤ p
  · have HB := Lib.hid (SetM.bit_out (p := p) (by omega))
    go_enter Tryz.func123, Tryz.ntmps123
    go_wp2
    go_ret
    exact ⟨ret_int (by rw [HB.out]; rfl), rfl⟩
  rcases eight (p := p) (by omega) (by omega) with rfl | rfl | rfl | rfl | rfl | rfl | rfl | rfl
  all_goals
    clear h1 h2
    go_enter Tryz.func123, Tryz.ntmps123
    go_wp2
    go_ret
    exact ⟨ret_int (by decide), rfl⟩


theorem ne_has (s p : Int) : (bits .and .i64 s (SetM.bit p) != 0) = SetM.has s p := by
  have h := SetM.has_and s p
  cases hb : SetM.has s p
  · rw [h.2 hb]; rfl
  · rw [bne_iff_ne]; intro e; rw [h.1 e] at hb; cases hb

set_option maxHeartbeats 400000 in
theorem has_any (s p : Int) (w : World) : Calls Tryz.prog 95 #[.int .i64 s, .int .i64 p] w fun e w' => e = .returned (.bool (SetM.has s p)) ∧ w = w' := by
  have HB := Lib.hid (ne_has s p)
  go_enter Tryz.func95, Tryz.ntmps95
  go_wp2_with (go_at_call 123; refine (bit_any _ _).mono ?_; rintro e w' ⟨rfl, rfl⟩)
  go_ret
  exact ⟨ret_bool HB.out, rfl⟩

set_option maxHeartbeats 400000 in
theorem with_any (s p : Int) (w : World) : Calls Tryz.prog 124 #[.int .i64 s, .int .i64 p] w fun e w' => e = .returned (.int .i64 (SetM.withN s p)) ∧ w = w' := by
  have HB := Lib.hid (SetM.with_bits s p)
  go_enter Tryz.func124, Tryz.ntmps124
  go_wp2_with (go_at_call 123; refine (bit_any _ _).mono ?_; rintro e w' ⟨rfl, rfl⟩)
  go_ret
  exact ⟨ret_int HB.out, rfl⟩

theorem with_take (l : List Int) (k : Nat) (h : k < l.length) : SetM.withN (SetM.of (l.take k) : Nat) (l.getD k 0) = SetM.of (l.take (k + 1)) := by
  rw [RefS.take_succ l k h, SetM.with_of]

set_option maxHeartbeats 400000 in
theorem of_any (a : Option Addr) (cap : Nat) (l : List Int) (w : World) (h : RefS.Row w a l) :
    Calls Tryz.prog 100 #[.slice a l.length cap] w fun e w' => e = .returned (.int .i64 (SetM.of l : Nat)) ∧ w = w' := by
  have h1 := h.1
  unfold maxLen at h1
  have Hr := Lib.hid h
  clear h
  go_enter Tryz.func100, Tryz.ntmps100
  go_wp2
  go_loop [3, 8] (fun t i => ∃ k : Nat, k ≤ l.length ∧ i = .int .i64 k ∧ t = .int .i64 (SetM.of (l.take k) : Nat)) (fun _ i => l.length - (intOf i).toNat)
  case atStart => exact ⟨0, Nat.zero_le _, rfl, rfl⟩
  case round =>
    obtain ⟨k, hk, rfl, rfl⟩ := hrel
    by_cases hlt : k < l.length
    · have HS := with_take l k hlt
      obtain ⟨x, rfl, hc⟩ := Hr.out.cells hlt
      have hcell := hc k hlt
      clear hc
      generalize l.getD k 0 = y at HS hcell
      have HS2 := Lib.hid HS
      clear HS
      go_wp2_with (go_at_call 124; refine (SetP.with_any _ _ _).mono ?_; rintro e w' ⟨rfl, rfl⟩)
      go_round
      case rel => exact ⟨k + 1, by omega, by go_num, by rw [HS2.out]⟩
      case measure => simp [intOf]; omega
    · go_wp2
      go_ret
      have : k = l.length := by omega
      subst this
      exact ⟨by rw [List.take_of_length_le (Nat.le_refl _)]; rfl, rfl⟩


end Go.Proofs.YtjolhoilcibdfaaGreat.SetP
/- The contracts of plan.hasGroup, rowsOf, Members, On, Next and Following. -/
namespace Go.Proofs.YtjolhoilcibdfaaGreat.PlanC
open Go.ChangeShapes Go.WideShapes Go.ChangeAt Go.RowKit
open Tab PlaceM PlanM
open May (ret_bool chain infoP infoG St phases_in)
open SetP (of_any has_any)
open Same (below_setRow)
set_option linter.unusedVariables false
set_option linter.unusedSimpArgs false
theorem ret_int {k : IntKind} {a b : Int} (h : a = b) : Ending.returned (.int k a) = .returned (.int k b) := by rw [h]
theorem infoZ : (Tryz.prog.info? 41).map (fun i => (i.zero, i.size)) = some (some (.agg #[.slice none 0 0, .slice none 0 0]), 2) := by kernel_rfl
theorem infoT : (Tryz.prog.info? 32).map (·.size) = some 131 := by kernel_rfl
theorem info2 : (Tryz.prog.info? 41).map (·.size) = some 2 := by kernel_rfl
theorem idx0 (v0 v1 : Value) (w : World) : Sem.run Tryz.prog (Instr.index 41 (.agg #[v0, v1]) (.int .i64 0)) w = .ok v0 w := by kernel_rfl
theorem idx1 (v0 v1 : Value) (w : World) : Sem.run Tryz.prog (Instr.index 41 (.agg #[v0, v1]) (.int .i64 1)) w = .ok v1 w := by kernel_rfl
theorem row_of_int {w : World} {a : Option Addr} {cap : Nat} {L : List Int} (h : IntRow w ⟨a, cap⟩ L) : RefS.Row w a L := by
  have hl := h.len
  refine ⟨by omega, ?_⟩
  by_cases h0 : L = []
  · exact .inl h0
  · have hp : 0 < L.length := List.length_pos_iff.2 h0
    obtain ⟨x, hx, _⟩ := IntRow.at h (List.getElem?_eq_getElem hp)
    refine .inr ⟨x, hx, fun i hi => ?_⟩
    obtain ⟨y, hy, hc⟩ := IntRow.at h (List.getElem?_eq_getElem hi)
    obtain rfl : x = y := Option.some.inj (hx.symm.trans hy)
    rw [hc, List.getD_eq_getElem?_getD, List.getElem?_eq_getElem hi]
    rfl
set_option maxRecDepth 100000 in
set_option maxHeartbeats 4000000 in
theorem hasGroup_any (T : Tab) (h : Hd) (g : Int) (w : World) (ht : IsTab w h T) :
    Calls Tryz.prog 147 #[.agg (T.cells h).toArray, .int .i64 g] w fun e w' => e = .returned (.bool (decide (0 ≤ g ∧ g < T.groups.length))) ∧ Below w.heap.size w w' := by
  have C := Lib.hid (cells_ok ht)
  generalize (T.cells h).toArray = cs at C ⊢
  have hsz := C.out.size
  have S0 := Lib.hid (St.box (cs := cs) ht)
  clear ht
  have q104 := S0.out.cell C.out.g
  generalize hr : decide (0 ≤ g ∧ g < T.groups.length) = r
  have HR := Lib.hid hr
  clear hr
  generalize T.groups.length = n at *
  have Q104 := Lib.hid q104
  clear q104
  go_enter Tryz.func147, Tryz.ntmps147
  go_upto_region 1 with fail
  generalize w.alloc (.cells cs 32) = w1 at S0 Q104 ⊢
  clear hsz
  have q104 := Q104.out
  by_cases h0 : 0 ≤ g
  · by_cases h1 : g < n
    · go_wp2
      go_ret
      exact ⟨ret_bool (by rw [← HR.out]; simp [h0, h1]), S0.out.bel⟩
    · go_wp2
      go_ret
      exact ⟨ret_bool (by rw [← HR.out]; simp [h0, h1]), S0.out.bel⟩
  · go_wp2
    go_ret
    exact ⟨ret_bool (by rw [← HR.out]; symm; rw [decide_eq_false_iff_not]; omega), S0.out.bel⟩
/-- A group's two rows as a value. -/
def Pair (w : World) (y : List Int × List Int) (s0 s1 : Sl) : Prop := IntRow w s0 y.1 ∧ IntRow w s1 y.2
set_option maxRecDepth 100000 in
set_option maxHeartbeats 4000000 in
theorem rowsOf_any (T : Tab) (h : Hd) (g : Int) (w : World) (ht : IsTab w h T) :
    Calls Tryz.prog 140 #[.agg (T.cells h).toArray, .int .i64 g] w fun e w' => ∃ s0 s1 : Sl, e = .returned (.agg #[s0.val (rowsAt T g).1.length, s1.val (rowsAt T g).2.length]) ∧ Pair w' (rowsAt T g) s0 s1 ∧ Below w.heap.size w w' := by
  have hsz := (cells_ok ht).size
  have C := Lib.hid (cells_ok ht)
  have IA : Hid ((Tryz.prog.info? 32).map (·.size) = some (T.cells h).length) := Lib.hid (by rw [List.size_toArray] at hsz; rw [hsz]; exact infoT)
  have HG : Hid (∀ W, Below w.heap.size w W → Calls Tryz.prog 147 #[.agg (T.cells h).toArray, .int .i64 g] W fun e w' => e = .returned (.bool (decide (0 ≤ g ∧ g < T.groups.length))) ∧ Below W.heap.size W w') := Lib.hid (fun W hb => hasGroup_any T h g W (ht.below hb))
  obtain ⟨gs, hgd, hgr⟩ := ht.groups
  have Hgr := Lib.hid hgr
  have Hgd := Lib.hid hgd
  have Hgl := Lib.hid (show T.groups.length = gs.length by rw [← hgd, List.length_map])
  have Kg := hgr.1.len
  unfold maxLen at Kg
  have A0 : Hid (Below w.heap.size w ((w.alloc (.cells (T.cells h).toArray 32)).alloc (.cells #[.slice none 0 0, .slice none 0 0] 41))) := Lib.hid (((Below.refl _ _).alloc (Nat.le_refl _) _).alloc (by simp) _)
  have A1 : Hid (((w.alloc (.cells (T.cells h).toArray 32)).alloc (.cells #[.slice none 0 0, .slice none 0 0] 41)).heap[w.heap.size]? = some (.cells (T.cells h).toArray 32 (0, 0))) := Lib.hid (heap_alloc2_old w _ _)
  have A2 : Hid (((w.alloc (.cells (T.cells h).toArray 32)).alloc (.cells #[.slice none 0 0, .slice none 0 0] 41)).heap[w.heap.size + 1]? = some (.cells #[.slice none 0 0, .slice none 0 0] 41 (0, 0))) := Lib.hid (heap_alloc2_new w _ _)
  have hz := (zero_of_info infoZ).1
  clear ht hgr hgd
  generalize T.cells h = c at *
  go_enter Tryz.func140, Tryz.ntmps140
  go_upto_region 1 with fail
  generalize ((w.alloc (.cells c.toArray 32)).alloc (.cells #[.slice none 0 0, .slice none 0 0] 41)) = u at A0 A1 A2 ⊢
  clear hsz hz
  have LT : Hid (Lies u ⟨w.heap.size, 0, none⟩ c) := Lib.hid (by have := Row.lies_of_block A1.out; simpa using this)
  go_wp2_with (refine Row.wpList_load_g 32 _ rfl (by first | rfl | go_simp) ⟨w.heap.size, 0, none⟩ rfl c _ LT.out Tryz.underlying32 rfl IA.out ?_)
  refine (HG.out _ A0.out).mono ?_
  rintro e u1 ⟨rfl, hb⟩
  have B0 : Hid (Below w.heap.size w u1) := Lib.hid (A0.out.trans (hb.mono A0.out.size))
  have B1 : Hid (u1.heap[w.heap.size]? = some (.cells c.toArray 32 (0, 0))) := Lib.hid ((hb.block _ (Array.getElem?_eq_some_iff.1 A1.out).1).trans A1.out)
  have B2 : Hid (u1.heap[w.heap.size + 1]? = some (.cells #[.slice none 0 0, .slice none 0 0] 41 (0, 0))) := Lib.hid ((hb.block _ (Array.getElem?_eq_some_iff.1 A2.out).1).trans A2.out)
  clear hb A0 A1 A2 LT HG
  by_cases hg : 0 ≤ g ∧ g < T.groups.length
  · rw [decide_eq_true hg]
    obtain ⟨g0, g1⟩ := hg
    obtain ⟨q, rfl⟩ := Int.eq_ofNat_of_zero_le g0
    have hlt : q < gs.length := by have := Hgl.out; omega
    have hv := List.getElem?_eq_getElem hlt
    generalize gs[q] = v at hv
    have HR : Hid (rowsAt T q = v.data) := Lib.hid (rows_in (by rw [← Hgd.out, List.getElem?_map, hv]; rfl))
    obtain ⟨x, hx, hc⟩ := (Hgr.out.1.below B0.out).at hv
    have hok := (Hgr.out.2 v (List.mem_of_getElem? hv)).below B0.out
    have q104 : u1.cell? ⟨w.heap.size, 104, none⟩ = some (.slice (some x) gs.length h.g.cap) := by
      rw [cell_of_row _ _ _ _ _ _ B1.out, C.out.g, Hgl.out]; simp only [Sl.val, hx]
    have HC := Lib.hid hc
    have HM := Lib.hid (List.mem_of_getElem? hv)
    have HW := Lib.hid (below_setRow B0.out (g := w.heap.size + 1) (by omega) v.cells.toArray)
    have HK := Lib.hid (setRow_heap u1 (w.heap.size + 1) _ v.cells.toArray _ _ B2.out)
    have V1 : Hid (v.cells.toArray.all (·.oneCell') = true) := Lib.hid (Gr.one v)
    clear hv hc hok hx g1
    go_wp2_with (first | (refine Row.wpList_load_g 41 _ rfl (by first | rfl | go_simp) (x.add (q * 2)) rfl v.cells _ HC.out Tryz.underlying41 rfl info2 ?_) | (refine wpList_store_row rfl 41 _ _ rfl (w.heap.size + 1) v.cells.toArray rfl rfl 41 _ B2.out info2 rfl V1.out ?_))
    have HO2 : Hid (v.ok (u1.setRow (w.heap.size + 1) v.cells.toArray)) := Lib.hid ((Hgr.out.2 v HM.out).below HW.out)
    generalize u1.setRow (w.heap.size + 1) v.cells.toArray = u2 at HW HK HO2 ⊢
    go_wp2_with fail
    (try simp only [Exit.inBlock, Exit.then])
    refine bodyPost_ret (v := .agg v.cells.toArray) ?_ rfl ⟨v.s0, v.s1, by rw [HR.out]; rfl, by rw [HR.out]; exact HO2.out, HW.out⟩
    exact results_cell_row rfl _ _ (w.heap.size + 1) 41 _ (0, 0) _ rfl HK.out Tryz.underlying41 rfl info2
  · rw [decide_eq_false hg]
    have HR : Hid (rowsAt T g = ([], [])) := Lib.hid (rows_out hg)
    have HW := Lib.hid (below_setRow B0.out (g := w.heap.size + 1) (by omega) #[.slice none 0 0, .slice none 0 0])
    have HK := Lib.hid (setRow_heap u1 (w.heap.size + 1) _ #[.slice none 0 0, .slice none 0 0] _ _ B2.out)
    clear hg
    go_wp2_with (first | (refine wpList_store_row rfl 41 _ _ rfl (w.heap.size + 1) #[.slice none 0 0, .slice none 0 0] rfl rfl 41 _ B2.out info2 rfl (by simp [Value.oneCell']) ?_))
    generalize u1.setRow (w.heap.size + 1) #[.slice none 0 0, .slice none 0 0] = u2 at HW HK ⊢
    go_wp2_with fail
    (try simp only [Exit.inBlock, Exit.then])
    refine bodyPost_ret (v := .agg #[.slice none 0 0, .slice none 0 0]) ?_ rfl ⟨⟨none, 0⟩, ⟨none, 0⟩, by rw [HR.out]; rfl, by rw [HR.out]; exact ⟨RowOf.nil _, RowOf.nil _⟩, HW.out⟩
    exact results_cell_row rfl _ _ (w.heap.size + 1) 41 _ (0, 0) _ rfl HK.out Tryz.underlying41 rfl info2
theorem of_len (a : Option Addr) (cap : Nat) (l : List Int) (w : World) (h : IntRow w ⟨a, cap⟩ l) : Calls Tryz.prog 100 #[.slice a l.length cap] w fun e w' => e = .returned (.int .i64 (SetM.of l : Nat)) ∧ w = w' := of_any a cap l w (row_of_int h)
theorem or0 (m : Nat) (h : m < 256) : bits .or .i64 0 (m : Int) = (m : Int) := by
  have := RefS.or_small 0 m (by decide) h
  simpa using this
set_option maxRecDepth 100000 in
set_option maxHeartbeats 4000000 in
theorem members_any (T : Tab) (h : Hd) (g : Int) (w : World) (ht : IsTab w h T) :
    Calls Tryz.prog 111 #[.agg (T.cells h).toArray, .int .i64 g] w fun e w' => e = .returned (.int .i64 (membS T g : Nat)) ∧ Below w.heap.size w w' := by
  have hsz := (cells_ok ht).size
  have C := Lib.hid (cells_ok ht)
  have IA : Hid ((Tryz.prog.info? 32).map (·.size) = some (T.cells h).length) := Lib.hid (by rw [List.size_toArray] at hsz; rw [hsz]; exact infoT)
  have RO : Hid (∀ W, Below w.heap.size w W → Calls Tryz.prog 140 #[.agg (T.cells h).toArray, .int .i64 g] W fun e w' => ∃ s0 s1 : Sl, e = .returned (.agg #[s0.val (rowsAt T g).1.length, s1.val (rowsAt T g).2.length]) ∧ Pair w' (rowsAt T g) s0 s1 ∧ Below W.heap.size W w') := Lib.hid (fun W hb => rowsOf_any T h g W (ht.below hb))
  have A0 : Hid (Below w.heap.size w (w.alloc (.cells (T.cells h).toArray 32))) := Lib.hid ((Below.refl _ _).alloc (Nat.le_refl _) _)
  have A1 : Hid (Lies (w.alloc (.cells (T.cells h).toArray 32)) ⟨w.heap.size, 0, none⟩ (T.cells h)) := Lib.hid (Row.lies_new w _ _)
  have MS : Hid (membS T g = SetM.of (rowsAt T g).1 ||| SetM.of (rowsAt T g).2) := Lib.hid rfl
  generalize membS T g = m at MS ⊢
  generalize rowsAt T g = y at MS RO
  obtain ⟨l0, l1⟩ := y
  clear ht
  generalize T.cells h = c at *
  go_enter Tryz.func111, Tryz.ntmps111
  go_upto_region 1 with fail
  generalize w.alloc (.cells c.toArray 32) = u at A0 A1 ⊢
  clear hsz
  go_wp2_with (refine Row.wpList_load_g 32 _ rfl (by first | rfl | go_simp) ⟨w.heap.size, 0, none⟩ rfl c _ A1.out Tryz.underlying32 rfl IA.out ?_)
  refine (RO.out _ A0.out).mono ?_
  rintro e u1 ⟨⟨a0, cap0⟩, ⟨a1, cap1⟩, rfl, hpair, hb⟩
  have B0 : Hid (Below w.heap.size w u1) := Lib.hid (A0.out.trans (hb.mono A0.out.size))
  have HP := Lib.hid hpair
  clear hb A0 A1 RO hpair IA
  rw [show (Value.agg #[Sl.val ⟨a0, cap0⟩ (l0, l1).fst.length, Sl.val ⟨a1, cap1⟩ (l0, l1).snd.length]) = .agg #[.slice a0 l0.length cap0, .slice a1 l1.length cap1] from rfl]
  have i0 := idx0 (.slice a0 l0.length cap0) (.slice a1 l1.length cap1)
  have i1 := idx1 (.slice a0 l0.length cap0) (.slice a1 l1.length cap1)
  have I0 := Lib.hid i0
  have I1 := Lib.hid i1
  clear i0 i1
  go_wp2_with fail
  go_loopw [5, 11] (fun t i wr => ∃ r : Nat, r ≤ 2 ∧ i = .int .i64 r ∧ t = .int .i64 ((if r = 0 then 0 else if r = 1 then SetM.of l0 else m : Nat) : Int) ∧ wr = u1) (fun _ i _ => 2 - (intOf i).toNat)
  case atStart => exact ⟨0, by omega, rfl, rfl, rfl⟩
  case round =>
    obtain ⟨r, hr, rfl, rfl, rfl⟩ := hrel
    have hr2 : r = 0 ∨ r = 1 ∨ r = 2 := by omega
    rcases hr2 with rfl | rfl | rfl
    · rw [show ((0 : Nat) : Int) = (0 : Int) from rfl]
      have i0 := I0.out
      have HS := Lib.hid (or0 (SetM.of l0) (SetM.of_lt l0))
      simp only [if_true]
      go_wp2_with fail
      refine (of_len a0 cap0 l0 _ HP.out.1).mono ?_
      rintro e w' ⟨rfl, rfl⟩
      generalize hs : SetM.of l0 = s at HS MS ⊢
      have HQ := Lib.hid hs
      clear hs
      go_wp2
      go_roundw
      case rel => exact ⟨1, by omega, by go_num, by rw [HS.out, ← HQ.out]; rfl, trivial⟩
      case measure => simp [intOf]
    · rw [show ((1 : Nat) : Int) = (1 : Int) from rfl]
      have i1 := I1.out
      have HS : Hid (bits .or .i64 (SetM.of l0 : Nat) (SetM.of l1 : Nat) = (m : Nat)) := Lib.hid (by rw [RefS.or_small _ _ (SetM.of_lt _) (SetM.of_lt _), MS.out])
      simp only [Nat.one_ne_zero, if_false, if_true]
      go_wp2_with fail
      refine (of_len a1 cap1 l1 _ HP.out.2).mono ?_
      rintro e w' ⟨rfl, rfl⟩
      generalize SetM.of l0 = s at HS MS ⊢
      generalize SetM.of l1 = s' at HS MS ⊢
      go_wp2
      go_roundw
      case rel => exact ⟨2, by omega, by go_num, by rw [HS.out]; rfl, trivial⟩
      case measure => simp [intOf]
    · rw [show ((2 : Nat) : Int) = (2 : Int) from rfl]
      simp only [show ¬ (2 = 0) by decide, show ¬ (2 = 1) by decide, if_false]
      go_wp2
      go_ret
      exact ⟨rfl, B0.out⟩
/-- The value of an array of phases, at one of its places. -/
theorem infoPs : (Tryz.prog.info? 25).map (·.size) = some 104 := by kernel_rfl
theorem cellsP : Tryz.prog.cellsOf 24 = 13 := by kernel_rfl
theorem rowP : Flat.rowT Tryz.prog 24 = true := by kernel_rfl
theorem infoPz : ∃ i, Tryz.prog.info? 24 = some i ∧ i.size = 13 := by
  have := infoP
  cases h : Tryz.prog.info? 24 with
  | none => rw [h] at this; simp at this
  | some i => rw [h] at this; exact ⟨i, rfl, by simpa using this⟩
theorem flat_take : ∀ {l : List Ph} {q : Nat} {u : Ph}, l[q]? = some u → ((l.flatMap Ph.cells).drop (q * 13)).take 13 = u.cells
  | [], q, u, h => by simp at h
  | p :: l, 0, u, h => by
    obtain rfl : p = u := by simpa using h
    rw [Nat.zero_mul, List.drop_zero, List.flatMap_cons]
    exact List.take_left' rfl
  | p :: l, q + 1, u, h => by
    rw [List.flatMap_cons, Nat.add_mul, Nat.one_mul, Nat.add_comm, List.drop_append, List.drop_of_length_le (by simp [Ph.cells]), List.nil_append, show 13 + q * 13 - p.cells.length = q * 13 by simp [Ph.cells]]
    exact flat_take (by simpa using h)
theorem idx_phase {l : List Ph} {q : Nat} {u : Ph} (hl : l.length = 8) (hu : l[q]? = some u) (w : World) :
    Sem.run Tryz.prog (Instr.index 25 (.agg (l.flatMap Ph.cells).toArray) (.int .i64 q)) w = .ok (.agg u.cells.toArray) w := by
  have hq : q < l.length := (List.getElem?_eq_some_iff.1 hu).1
  obtain ⟨i, hi, hs⟩ := infoPz
  have hp := Flat.run_part (P := Tryz.prog) w (t := 24) (d := _) Tryz.underlying24 (by rw [rowP]; simp) (l.flatMap Ph.cells) (q * 13) (by rw [cellsP, phases_len]; omega)
  rw [cellsP, Flat.vOf, if_pos rowP, flat_take hu] at hp
  unfold Instr.index
  have hc : 0 ≤ (q : Int) ∧ (q : Int) < 8 := by omega
  simp [run_underlying Tryz.underlying25, asIntOf]
  rw [if_pos (by omega)]
  first | exact hp | (rw [cellsP]; exact hp)
theorem lies_take {w : World} {b : Nat} {cs : Array Value} {t : TypeId} {fr : Nat × Nat} (hb : w.heap[b]? = some (.cells cs t fr)) (n : Nat) (l : List Value) (h : cs.toList.take n = l) : Lies w ⟨b, 0, none⟩ l := by
  intro j v hv
  rw [Addr.add_mid, Nat.zero_add, cell_of_row _ _ _ _ _ _ hb]
  subst h
  rw [List.getElem?_take] at hv
  split at hv
  · rwa [Array.getElem?_toList] at hv
  · cases hv
end Go.Proofs.YtjolhoilcibdfaaGreat.PlanC
/- The contract of plan.On. -/
namespace Go.Proofs.YtjolhoilcibdfaaGreat.PlanO
open Go.ChangeShapes Go.WideShapes Go.ChangeAt Go.RowKit
open Tab PlaceM PlanM OnS PlanC
open May (infoP St)
open SetP (with_any)
set_option linter.unusedVariables false
set_option linter.unusedSimpArgs false
theorem on_with {l : List Ph} {q : Nat} {p : Ph} (h : l[q]? = some p) (hp : p.on = true) : SetM.withN (SetM.of (onTo 0 (l.take q)) : Nat) q = SetM.of (onTo 0 (l.take (q + 1))) := by
  rw [on_step h, hp, if_pos rfl, SetM.with_of]
theorem on_skip {l : List Ph} {q : Nat} {p : Ph} (h : l[q]? = some p) (hp : p.on = false) : SetM.of (onTo 0 (l.take (q + 1))) = SetM.of (onTo 0 (l.take q)) := by
  rw [on_step h, hp]; simp
set_option maxRecDepth 100000 in
set_option maxHeartbeats 4000000 in
theorem pon_any (T : Tab) (h : Hd) (w : World) (ht : IsTab w h T) :
    Calls Tryz.prog 96 #[.agg (T.cells h).toArray] w fun e w' => e = .returned (.int .i64 (onS T : Nat)) ∧ Below w.heap.size w w' := by
  have C := Lib.hid (cells_ok ht)
  generalize (T.cells h).toArray = cs at C ⊢
  have hsz := C.out.size
  have L8 := Lib.hid ht.ph
  have S0 := Lib.hid (St.box (cs := cs) ht)
  have RS : Hid ((onS T : Nat) = SetM.of (onTo 0 T.phases)) := Lib.hid rfl
  have IX : Hid (∀ (q : Nat) u, T.phases[q]? = some u → ∀ W, Sem.run Tryz.prog (Instr.index 25 (.agg (T.phases.flatMap Ph.cells).toArray) (.int .i64 q)) W = .ok (.agg u.cells.toArray) W) := Lib.hid (fun q u hu W => idx_phase L8.out hu W)
  have LI : Hid ((Tryz.prog.info? 25).map (·.size) = some (T.phases.flatMap Ph.cells).length) := Lib.hid (by rw [phases_len, L8.out]; exact infoPs)
  generalize onS T = r at RS ⊢
  clear ht
  go_enter Tryz.func96, Tryz.ntmps96
  go_upto_region 1 with fail
  generalize w.alloc (.cells cs 32) = w1 at S0 ⊢
  clear hsz
  have LT : Hid (Lies w1 ⟨w.heap.size, 0, none⟩ (T.phases.flatMap Ph.cells)) := Lib.hid (lies_take S0.out.blk 104 _ C.out.phases)
  generalize T.phases.flatMap Ph.cells = fl at IX LI LT
  go_wp2_with (refine Row.wpList_load_g 25 _ rfl (by first | rfl | go_simp) ⟨w.heap.size, 0, none⟩ rfl fl _ LT.out Tryz.underlying25 rfl LI.out ?_)
  go_loopw [3, 8] (fun v g wr => ∃ q : Nat, q ≤ 8 ∧ g = .int .i64 q ∧ v = .int .i64 (SetM.of (onTo 0 (T.phases.take q)) : Nat) ∧ Below w1.heap.size w1 wr) (fun _ g _ => 8 - (intOf g).toNat)
  case atStart => exact ⟨0, by omega, rfl, rfl, Below.refl _ _⟩
  case round =>
    obtain ⟨q, hq, rfl, rfl, hbel⟩ := hrel
    have HB := Lib.hid hbel
    clear hbel
    by_cases hlt : q < 8
    · have hv : T.phases[q]? = some (T.phases[q]'(by rw [L8.out]; exact hlt)) := List.getElem?_eq_getElem _
      generalize T.phases[q]'(by rw [L8.out]; exact hlt) = u at hv
      have HV := Lib.hid hv
      have hidx := IX.out q u hv
      clear hv
      have hsz := HB.out.size
      go_upto_region 5 with (refine Row.wpList_store_new rfl 24 _ _ rfl wr _ u.cells.toArray rfl rfl rfl infoP rfl (Ph.one _) ?_)
      clear hidx
      have hbn : Below w1.heap.size w1 (wr.alloc (.cells u.cells.toArray 24)) := HB.out.alloc hsz _
      have hg := Row.lies_of_block (heap_alloc_new wr (.cells u.cells.toArray 24))
      have HL := Lib.hid hg
      have HN := Lib.hid hbn
      clear hg hbn HB
      generalize wr.alloc (.cells u.cells.toArray 24) = w4 at HL HN ⊢
      generalize wr.heap.size = b4 at HL ⊢
      have c0 : w4.cell? ⟨b4, 0, none⟩ = some (.bool u.on) := by
        have := HL.out 0 _ rfl
        rwa [Tab.add_zero] at this
      cases hon : u.on with
      | true =>
        rw [hon] at c0
        have HS := Lib.hid (on_with HV.out hon)
        clear hon
        generalize SetM.of (onTo 0 (T.phases.take q)) = s0 at HS ⊢
        go_wp2_with (go_at_call 124; refine (with_any _ _ _).mono ?_; rintro e w' ⟨rfl, rfl⟩)
        go_roundw
        case rel => exact ⟨q + 1, by omega, by go_num, by rw [← HS.out], HN.out⟩
        case measure => simp [intOf]; omega
      | false =>
        rw [hon] at c0
        have HS := Lib.hid (on_skip HV.out hon)
        clear hon
        generalize SetM.of (onTo 0 (T.phases.take q)) = s0 at HS ⊢
        go_wp2
        go_roundw
        case rel => exact ⟨q + 1, by omega, by go_num, by rw [← HS.out], HN.out⟩
        case measure => simp [intOf]; omega
    · have HE : Hid (SetM.of (onTo 0 (T.phases.take q)) = r) := Lib.hid (by rw [RS.out, List.take_of_length_le (by rw [L8.out]; omega)])
      have HF : Hid (Below w.heap.size w wr) := Lib.hid (S0.out.bel.trans (HB.out.mono S0.out.bel.size))
      generalize SetM.of (onTo 0 (T.phases.take q)) = s0 at HE ⊢
      go_wp2
      go_ret
      exact ⟨ret_int (by rw [HE.out]), HF.out⟩
end Go.Proofs.YtjolhoilcibdfaaGreat.PlanO
/- The contracts of package bound's isOn, needed and the clearance of one phase. -/
namespace Go.Proofs.YtjolhoilcibdfaaGreat.BdA
open Go.ChangeShapes Go.WideShapes Go.ChangeAt Go.RowKit
open Tab Gath OnS RefC Clear
open May (St phases_in infoP infoT row_new)
set_option linter.unusedVariables false
set_option linter.unusedSimpArgs false
def neededP (u : Ph) : Int := max u.min (sums [u.walk, u.blinks])
def clrP (u : Ph) : Int := sums [u.yellow, u.red]
set_option maxRecDepth 100000 in
set_option maxHeartbeats 8000000 in
theorem isOn_any (T : Tab) (h : Hd) (p : Int) (w : World) (ht : IsTab w h T) :
    Calls Tryz.prog 57 #[.agg (T.cells h).toArray, .int .i64 p] w fun e w' => e = .returned (.bool (SetM.has (onS T : Nat) p)) ∧ Below w.heap.size w w' := by
  have C := Lib.hid (cells_ok ht)
  have hsz := C.out.size
  have IA : Hid ((Tryz.prog.info? 32).map (·.size) = some (T.cells h).length) := Lib.hid (by rw [List.size_toArray] at hsz; rw [hsz]; exact infoT)
  have ON : Hid (∀ W, Below w.heap.size w W → Calls Tryz.prog 96 #[.agg (T.cells h).toArray] W fun e w' => e = .returned (.int .i64 (onS T : Nat)) ∧ Below W.heap.size W w') := Lib.hid (fun W hb => PlanO.pon_any T h W (ht.below hb))
  have S0 := Lib.hid (St.box (cs := (T.cells h).toArray) ht)
  generalize ((onS T : Nat) : Int) = os at ON
  clear ht
  generalize T.cells h = c at *
  go_enter Tryz.func57, Tryz.ntmps57
  go_upto_region 1 with fail
  generalize w.alloc (.cells c.toArray 32) = w1 at S0 ⊢
  clear hsz
  have LT : Hid (Lies w1 ⟨w.heap.size, 0, none⟩ c) := Lib.hid (by have := Row.lies_of_block S0.out.blk; simpa using this)
  go_wp2_with (refine Row.wpList_load_g 32 _ rfl (by first | rfl | go_simp) ⟨w.heap.size, 0, none⟩ rfl c _ LT.out Tryz.underlying32 rfl IA.out ?_)
  refine (ON.out _ S0.out.bel).mono ?_
  rintro e w2 ⟨rfl, hb⟩
  have S2 := Lib.hid (S0.out.step hb)
  clear hb S0 LT ON IA
  go_wp2_with fail
  refine (SetP.has_any os p _).mono ?_
  rintro e w' ⟨rfl, rfl⟩
  go_wp2
  go_ret
  exact ⟨rfl, S2.out.bel⟩
set_option maxRecDepth 100000 in
set_option maxHeartbeats 8000000 in
theorem needed_any (u : Ph) (w : World) :
    Calls Tryz.prog 59 #[.agg u.cells.toArray] w fun e w' => e = .returned (.int .i64 (neededP u)) ∧ Below w.heap.size w w' := by
  have RS : Hid (neededP u = max u.min (sums [u.walk, u.blinks])) := Lib.hid rfl
  generalize neededP u = r at RS ⊢
  have B0 := Lib.hid ((Below.refl w.heap.size w).alloc (Nat.le_refl _) (.cells u.cells.toArray 24))
  have hg := heap_alloc_new w (.cells u.cells.toArray 24)
  go_enter Tryz.func59, Tryz.ntmps59
  go_upto_region 1 with fail
  generalize World.alloc w _ = w1 at hg B0 ⊢
  have HL : Hid (Lies w1 ⟨w.heap.size, 0, none⟩ u.cells) := Lib.hid (by have := Row.lies_of_block hg; simpa using this)
  clear hg
  have M1 : Hid (∀ w', Below w1.heap.size w1 w' → w'.cell? ⟨w.heap.size, 1, none⟩ = some (I u.min)) := Lib.hid (fun w' hb => by have := (HL.out.below hb) 1 _ rfl; rwa [Addr.add_mid, Nat.zero_add] at this)
  have M8 : Hid (∀ w', Below w1.heap.size w1 w' → w'.cell? ⟨w.heap.size, 8, none⟩ = some (I u.walk)) := Lib.hid (fun w' hb => by have := (HL.out.below hb) 8 _ rfl; rwa [Addr.add_mid, Nat.zero_add] at this)
  have M9 : Hid (∀ w', Below w1.heap.size w1 w' → w'.cell? ⟨w.heap.size, 9, none⟩ = some (I u.blinks)) := Lib.hid (fun w' hb => by have := (HL.out.below hb) 9 _ rfl; rwa [Addr.add_mid, Nat.zero_add] at this)
  refine wp_region_held (S := fun w' => Below w1.heap.size w1 w') (by kernel_rfl) ?_
  have hS : Below w1.heap.size w1 { w1 with drawn := w1.drawn + 1 } := (Below.refl _ _).drew
  generalize ({ w1 with drawn := w1.drawn + 1 } : World) = v at hS ⊢
  refine Held.take (i := 0) (some 3) rfl (v := ?_) rfl (by kernel_rfl) (by kernel_rfl) (by kernel_rfl) (fun _ _ _ h => h) (Or.inl ⟨by rfl, ?_⟩) hS ?_
  rotate_left
  · intro w' hw'
    go_simp
    try with_reducible rfl
  (try dsimp only [Act.put]); (try simp only [List.setIfInBounds_toArray, List.set_cons_zero, List.set_cons_succ])
  refine Held.take (i := 1) (some 4) rfl (v := ?_) rfl (by kernel_rfl) (by kernel_rfl) (by kernel_rfl) (fun _ _ _ h => h) (Or.inl ⟨by rfl, ?_⟩) hS ?_
  rotate_left
  · intro w' hw'
    have cf := M1.out w' hw'
    go_simp
    try with_reducible rfl
  (try dsimp only [Act.put]); (try simp only [List.setIfInBounds_toArray, List.set_cons_zero, List.set_cons_succ])
  refine Held.take (i := 2) (some 5) rfl (v := ?_) rfl (by kernel_rfl) (by kernel_rfl) (by kernel_rfl) (fun _ _ _ h => h) (Or.inl ⟨by rfl, ?_⟩) hS ?_
  rotate_left
  · intro w' hw'
    go_simp
    try with_reducible rfl
  (try dsimp only [Act.put]); (try simp only [List.setIfInBounds_toArray, List.set_cons_zero, List.set_cons_succ])
  refine Held.take (i := 3) (some 6) rfl (v := ?_) rfl (by kernel_rfl) (by kernel_rfl) (by kernel_rfl) (fun _ _ _ h => h) (Or.inl ⟨by rfl, ?_⟩) hS ?_
  rotate_left
  · intro w' hw'
    have cf := M8.out w' hw'
    go_simp
    try with_reducible rfl
  (try dsimp only [Act.put]); (try simp only [List.setIfInBounds_toArray, List.set_cons_zero, List.set_cons_succ])
  refine Held.take (i := 4) (some 7) rfl (v := ?_) rfl (by kernel_rfl) (by kernel_rfl) (by kernel_rfl) (fun _ _ _ h => h) (Or.inl ⟨by rfl, ?_⟩) hS ?_
  rotate_left
  · intro w' hw'
    go_simp
    try with_reducible rfl
  (try dsimp only [Act.put]); (try simp only [List.setIfInBounds_toArray, List.set_cons_zero, List.set_cons_succ])
  refine Held.take (i := 5) (some 8) rfl (v := ?_) rfl (by kernel_rfl) (by kernel_rfl) (by kernel_rfl) (fun _ _ _ h => h) (Or.inl ⟨by rfl, ?_⟩) hS ?_
  rotate_left
  · intro w' hw'
    have cf := M9.out w' hw'
    go_simp
    try with_reducible rfl
  (try dsimp only [Act.put]); (try simp only [List.setIfInBounds_toArray, List.set_cons_zero, List.set_cons_succ])
  refine wpAnyH_ready (rs := [6]) (by kernel_rfl) (by simp) (AllReadyH.cons rfl (fun K hK => ?_) AllReadyH.nil)
  go_simp
  have R1 : Hid (IntRow (v.alloc (.cells #[I u.walk, I u.blinks] 3)) ⟨some ⟨v.heap.size, 0, none⟩, 2⟩ [u.walk, u.blinks]) := Lib.hid (row_new v 3 [u.walk, u.blinks] 2 rfl (by decide) _ rfl)
  have hq := hS.alloc hS.size (.cells #[I u.walk, I u.blinks] 3)
  clear hS
  generalize v.heap.size = b1 at R1 ⊢
  generalize World.alloc v _ = v at R1 hq ⊢
  refine hK.out _ _ hq (fun hS => ?_)
  clear hK K hq
  refine wpAnyH_ready (rs := [7]) (by kernel_rfl) (by simp) (AllReadyH.cons rfl (fun K hK => ?_) AllReadyH.nil)
  go_simp
  refine (BdS.sum_row (some ⟨b1, 0, none⟩) 2 [u.walk, u.blinks] 2 rfl _ R1.out).mono ?_
  rintro e w' ⟨rfl, rfl⟩
  go_simp
  refine hK.out _ _ hS (fun hS => ?_)
  clear hK K
  clear R1
  generalize sums [u.walk, u.blinks] = z at RS ⊢
  refine Held.take (i := 8) (some 11) rfl (v := .int .i64 (max u.min z)) rfl (by kernel_rfl) (by kernel_rfl) (by kernel_rfl) (fun _ _ _ h => h) (Or.inl ⟨by rfl, ?_⟩) hS ?_
  · intro w' hw'
    go_simp
    try (first | rfl | (simp only [Int.max_def]; split <;> split <;> omega))
  (try dsimp only [Act.put]); (try simp only [List.setIfInBounds_toArray, List.set_cons_zero, List.set_cons_succ])
  rw [← RS.out]
  refine Held.take (i := 9) (some 2) rfl (v := ?_) rfl (by kernel_rfl) (by kernel_rfl) (by kernel_rfl) (fun _ _ _ h => h) (Or.inl ⟨by rfl, ?_⟩) hS ?_
  rotate_left
  · intro w' hw'
    go_simp
    try with_reducible rfl
  (try dsimp only [Act.put]); (try simp only [List.setIfInBounds_toArray, List.set_cons_zero, List.set_cons_succ])
  refine wpAnyH_done (by kernel_rfl) ?_ _
  have HF := Lib.hid (B0.out.trans (hS.mono B0.out.size))
  clear hS
  go_wp2
  go_ret
  exact ⟨rfl, HF.out⟩
set_option maxRecDepth 100000 in
set_option maxHeartbeats 8000000 in
theorem clr_any (u : Ph) (w : World) :
    Calls Tryz.prog 103 #[.agg u.cells.toArray] w fun e w' => e = .returned (.int .i64 (clrP u)) ∧ Below w.heap.size w w' := by
  have RS : Hid (clrP u = sums [u.yellow, u.red]) := Lib.hid rfl
  generalize clrP u = r at RS ⊢
  have B0 := Lib.hid ((Below.refl w.heap.size w).alloc (Nat.le_refl _) (.cells u.cells.toArray 24))
  have hg := heap_alloc_new w (.cells u.cells.toArray 24)
  go_enter Tryz.func103, Tryz.ntmps103
  go_upto_region 1 with fail
  generalize World.alloc w _ = w1 at hg B0 ⊢
  have HL : Hid (Lies w1 ⟨w.heap.size, 0, none⟩ u.cells) := Lib.hid (by have := Row.lies_of_block hg; simpa using this)
  clear hg
  have M6 : Hid (∀ w', Below w1.heap.size w1 w' → w'.cell? ⟨w.heap.size, 6, none⟩ = some (I u.yellow)) := Lib.hid (fun w' hb => by have := (HL.out.below hb) 6 _ rfl; rwa [Addr.add_mid, Nat.zero_add] at this)
  have M7 : Hid (∀ w', Below w1.heap.size w1 w' → w'.cell? ⟨w.heap.size, 7, none⟩ = some (I u.red)) := Lib.hid (fun w' hb => by have := (HL.out.below hb) 7 _ rfl; rwa [Addr.add_mid, Nat.zero_add] at this)
  have c6 := M6.out _ (Below.refl _ _)
  have c7 := M7.out _ (Below.refl _ _)
  go_wp2_with fail
  have R1 : Hid (IntRow (w1.alloc (.cells #[I u.yellow, I u.red] 3)) ⟨some ⟨w1.heap.size, 0, none⟩, 2⟩ [u.yellow, u.red]) := Lib.hid (row_new w1 3 [u.yellow, u.red] 2 rfl (by decide) _ rfl)
  have HF : Hid (Below w.heap.size w (w1.alloc (.cells #[I u.yellow, I u.red] 3))) := Lib.hid (B0.out.alloc B0.out.size _)
  clear M6 M7 c6 c7 HL
  generalize w1.heap.size = b1 at R1 ⊢
  generalize World.alloc w1 _ = v at R1 HF ⊢
  refine (BdS.sum_row (some ⟨b1, 0, none⟩) 2 [u.yellow, u.red] 2 rfl _ R1.out).mono ?_
  rintro e w' ⟨rfl, rfl⟩
  rw [← RS.out]
  go_wp2
  go_ret
  exact ⟨rfl, HF.out⟩
end Go.Proofs.YtjolhoilcibdfaaGreat.BdA
/- The sums of layer 10: the program's and the document's. Plain mathematics. -/
namespace Go.Proofs.YtjolhoilcibdfaaGreat.BdM
open RefC
set_option linter.unusedVariables false
set_option linter.unusedSimpArgs false
/-- The sum of what is capped, not capped itself. -/
def tot (l : List Int) : Int := l.foldl (fun s x => s + cap x) 0
theorem tot_snoc (l : List Int) (x : Int) : tot (l ++ [x]) = tot l + cap x := by unfold tot; rw [List.foldl_append]; rfl
theorem fold_from (l : List Int) : ∀ s : Int, l.foldl (fun s x => s + cap x) s = s + tot l := by
  induction l with
  | nil => intro s; simp [tot]
  | cons y t ih =>
    intro s
    have e : tot (y :: t) = cap y + tot t := by
      show List.foldl (fun s x => s + cap x) (0 + cap y) t = _
      rw [ih]; omega
    rw [List.foldl_cons, ih, e]; omega
theorem tot_cons (y : Int) (t : List Int) : tot (y :: t) = cap y + tot t := by
  show List.foldl (fun s x => s + cap x) (0 + cap y) t = _
  rw [fold_from]; omega
theorem tot_nil : tot [] = 0 := rfl
theorem tot_append (l m : List Int) : tot (l ++ m) = tot l + tot m := by
  induction l with
  | nil => simp [tot_nil]
  | cons y t ih => rw [List.cons_append, tot_cons, tot_cons, ih]; omega
theorem tot_lo (l : List Int) : 0 ≤ tot l := by
  induction l with
  | nil => exact Int.le_refl _
  | cons y t ih => rw [tot_cons]; have := cap_lo y; omega
theorem sums_tot_from (l : List Int) : ∀ s : Int, 0 ≤ s → l.foldl add (min s 2147483647) = min (s + tot l) 2147483647 := by
  induction l with
  | nil => intro s hs; simp [tot_nil]
  | cons y t ih =>
    intro s hs
    have hc := cap_lo y
    have hh := cap_hi y
    have e : add (min s 2147483647) y = min (s + cap y) 2147483647 := by
      unfold add
      rw [cap_in (n := min s 2147483647) (by omega) (by omega)]
      by_cases h : s + cap y ≤ 2147483647
      · rw [cap_in (by omega) (by omega)]; omega
      · by_cases h2 : 2147483647 < min s 2147483647 + cap y
        · rw [cap_big h2]; omega
        · rw [cap_in (by omega) (by omega)]; omega
    rw [List.foldl_cons, e, ih _ (by omega), tot_cons]
    congr 1; omega
theorem sums_tot (l : List Int) : sums l = min (tot l) 2147483647 := by
  have := sums_tot_from l 0 (Int.le_refl _)
  rw [show min (0 : Int) 2147483647 = 0 from rfl] at this
  unfold sums; rw [this, Int.zero_add]
theorem sums_lo (l : List Int) : 0 ≤ sums l := by rw [sums_tot]; have := tot_lo l; omega
theorem sums_hi (l : List Int) : sums l ≤ 2147483647 := by rw [sums_tot]; omega
theorem cap_sums (l : List Int) : cap (sums l) = sums l := cap_in (sums_lo l) (sums_hi l)
theorem cap_max (a b : Int) : cap (max a b) = max (cap a) (cap b) := by unfold cap; split <;> (try split) <;> (try split) <;> (try split) <;> (try split) <;> (try split) <;> omega
theorem cap_mono {a b : Int} (h : a ≤ b) : cap a ≤ cap b := by unfold cap; split <;> (try split) <;> (try split) <;> (try split) <;> omega
/-- The greatest, 0 of none: one by one. -/
theorem mosts_cons_from (l : List Int) : ∀ s : Int, 0 ≤ s → l.foldl max s = max s (mosts l) := by
  induction l with
  | nil => intro s hs; show s = max s (mosts []); unfold mosts; simp; omega
  | cons y t ih =>
    intro s hs
    have e : mosts (y :: t) = max (max 0 y) (mosts t) := by
      show List.foldl max (max 0 y) t = _
      exact ih _ (by omega)
    rw [List.foldl_cons, ih _ (by omega), e]; omega
theorem mosts_cons (y : Int) (t : List Int) : mosts (y :: t) = max (max 0 y) (mosts t) := mosts_cons_from t _ (by omega)
theorem mosts_nil : mosts [] = 0 := rfl
theorem mosts_snoc (l : List Int) (x : Int) : mosts (l ++ [x]) = max (mosts l) x := by unfold mosts; rw [List.foldl_append]; rfl
end Go.Proofs.YtjolhoilcibdfaaGreat.BdM
/- The contract of package bound's Serve: it answers what the document's own does. -/
namespace Go.Proofs.YtjolhoilcibdfaaGreat.BdV
open Go.ChangeShapes Go.WideShapes Go.ChangeAt Go.RowKit
open Tab Gath OnS RefC Clear
open May (St phases_in infoP infoT row_new)
set_option linter.unusedVariables false
set_option linter.unusedSimpArgs false
open ServeS (serveS serveR)
theorem serveR_eq (T : Tab) (u : Ph) : serveR T u = sums [max (BdA.neededP u) u.top, T.extend, u.yellow, u.red, T.revert, 8] := by
  unfold serveR BdA.neededP
  simp only [BdM.sums_tot (_ :: _ :: _ :: _), BdM.tot_cons, BdM.cap_max, BdM.cap_sums, BdM.mosts_cons, BdM.mosts_nil, cap_cap, show cap 0 = 0 from rfl]
  have := cap_lo u.min
  have := cap_lo u.top
  have := BdM.sums_lo [u.walk, u.blinks]
  have e : max (max 0 (cap u.min)) (max (max 0 (sums [u.walk, u.blinks])) (max (max 0 (cap u.top)) 0)) = max (max (cap u.min) (sums [u.walk, u.blinks])) (cap u.top) := by omega
  rw [e]
set_option maxRecDepth 100000 in
set_option maxHeartbeats 8000000 in
theorem pserve_any (T : Tab) (h : Hd) (p : Int) (w : World) (ht : IsTab w h T) :
    Calls Tryz.prog 25 #[.agg (T.cells h).toArray, .int .i64 p] w fun e w' => e = .returned (.int .i64 (serveS T p)) ∧ Below w.heap.size w w' := by
  have C := Lib.hid (cells_ok ht)
  have hsz := C.out.size
  have IA : Hid ((Tryz.prog.info? 32).map (·.size) = some (T.cells h).length) := Lib.hid (by rw [List.size_toArray] at hsz; rw [hsz]; exact infoT)
  have ON : Hid (∀ W, Below w.heap.size w W → Calls Tryz.prog 57 #[.agg (T.cells h).toArray, .int .i64 p] W fun e w' => e = .returned (.bool (SetM.has (onS T : Nat) p)) ∧ Below W.heap.size W w') := Lib.hid (fun W hb => BdA.isOn_any T h p W (ht.below hb))
  have L8 := Lib.hid ht.ph
  have S0 := Lib.hid (St.box (cs := (T.cells h).toArray) ht)
  have RS : Hid (serveS T p = if SetM.has (onS T : Nat) p then serveR T (phAt T p) else 0) := Lib.hid rfl
  generalize serveS T p = e0 at RS ⊢
  generalize ((onS T : Nat) : Int) = os at RS ON
  clear ht
  generalize T.cells h = c at *
  go_enter Tryz.func25, Tryz.ntmps25
  go_upto_region 1 with fail
  generalize w.alloc (.cells c.toArray 32) = w1 at S0 ⊢
  clear hsz
  have LT : Hid (Lies w1 ⟨w.heap.size, 0, none⟩ c) := Lib.hid (by have := Row.lies_of_block S0.out.blk; simpa using this)
  go_wp2_with (refine Row.wpList_load_g 32 _ rfl (by first | rfl | go_simp) ⟨w.heap.size, 0, none⟩ rfl c _ LT.out Tryz.underlying32 rfl IA.out ?_)
  refine (ON.out _ S0.out.bel).mono ?_
  rintro e w2 ⟨rfl, hb⟩
  have S2 := Lib.hid (S0.out.step hb)
  clear hb S0 LT ON IA
  by_cases hh : SetM.has os p = true
  rotate_left
  · have h2 : SetM.has os p = false := by simpa using hh
    have HE : Hid (0 = e0) := Lib.hid (by rw [RS.out, h2]; rfl)
    rw [h2]
    clear hh h2
    go_wp2
    go_ret
    exact ⟨RefC.ret_int HE.out, S2.out.bel⟩
  have HE : Hid (serveR T (phAt T p) = e0) := Lib.hid (by rw [RS.out, hh]; rfl)
  have hbd := SetM.list_bd os p ((SetM.mem_list os p).2 hh)
  rw [hh]
  clear hh RS
  obtain ⟨p0, p8⟩ := hbd
  obtain ⟨k, rfl⟩ := Int.eq_ofNat_of_zero_le p0
  have hk : k < 8 := by omega
  have hv : T.phases[k]? = some (phAt T k) := by
    unfold phAt
    rw [Int.toNat_natCast, List.getD_eq_getElem?_getD, List.getElem?_eq_getElem (by rw [L8.out]; exact hk)]; rfl
  generalize phAt T k = u at hv HE
  have ER : Hid (serveR T u = sums [max (BdA.neededP u) u.top, T.extend, u.yellow, u.red, T.revert, 8]) := Lib.hid (serveR_eq T u)
  generalize serveR T u = sr at HE ER
  obtain ⟨y, hy, hcc⟩ := (phases_in S2.out.blk C.out L8.out).at hv
  obtain rfl := Option.some.inj hy
  have HC := Lib.hid (show Lies w2 ⟨w.heap.size, k * 13, none⟩ u.cells by have := hcc; rwa [Addr.add_mid, Nat.zero_add] at this)
  clear hv hcc hy
  go_upto_region 3 with fail
  go_upto_region 4 with (first | (refine Row.wpList_load_g 24 _ rfl (by first | rfl | go_simp) ⟨w.heap.size, k * 13, none⟩ rfl u.cells _ HC.out Tryz.underlying24 rfl infoP ?_) | (refine Row.wpList_store_new rfl 24 _ _ rfl w2 _ u.cells.toArray rfl rfl rfl infoP rfl (Ph.one _) ?_))
  (try dsimp only [Act.put])
  have hb2 : Below w2.heap.size w2 (w2.alloc (.cells u.cells.toArray 24)) := (Below.refl _ _).alloc (Nat.le_refl _) _
  have hg := heap_alloc_new w2 (.cells u.cells.toArray 24)
  have S3 := Lib.hid (S2.out.step hb2)
  clear HC hb2 S2
  generalize World.alloc w2 _ = w3 at hg S3 ⊢
  generalize w2.heap.size = b at hg ⊢
  have HL : Hid (Lies w3 ⟨b, 0, none⟩ u.cells) := Lib.hid (by have := Row.lies_of_block hg; simpa using this)
  clear hg
  have M4 : Hid (∀ w', Below w3.heap.size w3 w' → w'.cell? ⟨b, 4, none⟩ = some (I u.top)) := Lib.hid (fun w' hb => by have := (HL.out.below hb) 4 _ rfl; rwa [Addr.add_mid, Nat.zero_add] at this)
  have M6 : Hid (∀ w', Below w3.heap.size w3 w' → w'.cell? ⟨b, 6, none⟩ = some (I u.yellow)) := Lib.hid (fun w' hb => by have := (HL.out.below hb) 6 _ rfl; rwa [Addr.add_mid, Nat.zero_add] at this)
  have M7 : Hid (∀ w', Below w3.heap.size w3 w' → w'.cell? ⟨b, 7, none⟩ = some (I u.red)) := Lib.hid (fun w' hb => by have := (HL.out.below hb) 7 _ rfl; rwa [Addr.add_mid, Nat.zero_add] at this)
  have dME := S3.out.cell C.out.extend
  have ME := Lib.hid (fun w' (hb : Below w3.heap.size w3 w') => (hb.cell (World.block_lt_of_cell? w3 _ dME)).trans dME)
  clear dME
  have dMR := S3.out.cell C.out.revert
  have MR := Lib.hid (fun w' (hb : Below w3.heap.size w3 w') => (hb.cell (World.block_lt_of_cell? w3 _ dMR)).trans dMR)
  clear dMR
  have HLB : Hid (∀ w', Below w3.heap.size w3 w' → Lies w' ⟨b, 0, none⟩ u.cells) := Lib.hid (fun w' hb => HL.out.below hb)
  refine wp_region_held (S := fun w' => Below w3.heap.size w3 w') (by kernel_rfl) ?_
  have hS : Below w3.heap.size w3 { w3 with drawn := w3.drawn + 1 } := (Below.refl _ _).drew
  generalize ({ w3 with drawn := w3.drawn + 1 } : World) = v at hS ⊢
  refine Held.take_load (i := 0) (some 14) rfl 24 (.tmp 5) ⟨b, 0, none⟩ u.cells _ rfl rfl (by kernel_rfl) (by kernel_rfl) (by kernel_rfl) (fun _ _ _ h => h) (by rfl) hS rfl (fun w' hw' => HLB.out w' hw') Tryz.underlying24 rfl infoP ?_
  (try dsimp only [Act.put]); (try simp only [List.setIfInBounds_toArray, List.set_cons_zero, List.set_cons_succ])
  refine Held.take (i := 2) (some 16) rfl (v := ?_) rfl (by kernel_rfl) (by kernel_rfl) (by kernel_rfl) (fun _ _ _ h => h) (Or.inl ⟨by rfl, ?_⟩) hS ?_
  rotate_left
  · intro w' hw'
    go_simp
    try with_reducible rfl
  (try dsimp only [Act.put]); (try simp only [List.setIfInBounds_toArray, List.set_cons_zero, List.set_cons_succ])
  refine Held.take (i := 3) (some 17) rfl (v := ?_) rfl (by kernel_rfl) (by kernel_rfl) (by kernel_rfl) (fun _ _ _ h => h) (Or.inl ⟨by rfl, ?_⟩) hS ?_
  rotate_left
  · intro w' hw'
    have cf := M4.out w' hw'
    go_simp
    try with_reducible rfl
  (try dsimp only [Act.put]); (try simp only [List.setIfInBounds_toArray, List.set_cons_zero, List.set_cons_succ])
  refine Held.take (i := 5) (some 19) rfl (v := ?_) rfl (by kernel_rfl) (by kernel_rfl) (by kernel_rfl) (fun _ _ _ h => h) (Or.inl ⟨by rfl, ?_⟩) hS ?_
  rotate_left
  · intro w' hw'
    go_simp
    try with_reducible rfl
  (try dsimp only [Act.put]); (try simp only [List.setIfInBounds_toArray, List.set_cons_zero, List.set_cons_succ])
  refine Held.take (i := 6) (some 20) rfl (v := ?_) rfl (by kernel_rfl) (by kernel_rfl) (by kernel_rfl) (fun _ _ _ h => h) (Or.inl ⟨by rfl, ?_⟩) hS ?_
  rotate_left
  · intro w' hw'
    have cf := ME.out w' hw'
    go_simp
    try with_reducible rfl
  (try dsimp only [Act.put]); (try simp only [List.setIfInBounds_toArray, List.set_cons_zero, List.set_cons_succ])
  refine Held.take (i := 7) (some 21) rfl (v := ?_) rfl (by kernel_rfl) (by kernel_rfl) (by kernel_rfl) (fun _ _ _ h => h) (Or.inl ⟨by rfl, ?_⟩) hS ?_
  rotate_left
  · intro w' hw'
    go_simp
    try with_reducible rfl
  (try dsimp only [Act.put]); (try simp only [List.setIfInBounds_toArray, List.set_cons_zero, List.set_cons_succ])
  refine Held.take (i := 8) (some 22) rfl (v := ?_) rfl (by kernel_rfl) (by kernel_rfl) (by kernel_rfl) (fun _ _ _ h => h) (Or.inl ⟨by rfl, ?_⟩) hS ?_
  rotate_left
  · intro w' hw'
    have cf := M6.out w' hw'
    go_simp
    try with_reducible rfl
  (try dsimp only [Act.put]); (try simp only [List.setIfInBounds_toArray, List.set_cons_zero, List.set_cons_succ])
  refine Held.take (i := 9) (some 23) rfl (v := ?_) rfl (by kernel_rfl) (by kernel_rfl) (by kernel_rfl) (fun _ _ _ h => h) (Or.inl ⟨by rfl, ?_⟩) hS ?_
  rotate_left
  · intro w' hw'
    go_simp
    try with_reducible rfl
  (try dsimp only [Act.put]); (try simp only [List.setIfInBounds_toArray, List.set_cons_zero, List.set_cons_succ])
  refine Held.take (i := 10) (some 24) rfl (v := ?_) rfl (by kernel_rfl) (by kernel_rfl) (by kernel_rfl) (fun _ _ _ h => h) (Or.inl ⟨by rfl, ?_⟩) hS ?_
  rotate_left
  · intro w' hw'
    have cf := M7.out w' hw'
    go_simp
    try with_reducible rfl
  (try dsimp only [Act.put]); (try simp only [List.setIfInBounds_toArray, List.set_cons_zero, List.set_cons_succ])
  refine Held.take (i := 11) (some 25) rfl (v := ?_) rfl (by kernel_rfl) (by kernel_rfl) (by kernel_rfl) (fun _ _ _ h => h) (Or.inl ⟨by rfl, ?_⟩) hS ?_
  rotate_left
  · intro w' hw'
    go_simp
    try with_reducible rfl
  (try dsimp only [Act.put]); (try simp only [List.setIfInBounds_toArray, List.set_cons_zero, List.set_cons_succ])
  refine Held.take (i := 12) (some 26) rfl (v := ?_) rfl (by kernel_rfl) (by kernel_rfl) (by kernel_rfl) (fun _ _ _ h => h) (Or.inl ⟨by rfl, ?_⟩) hS ?_
  rotate_left
  · intro w' hw'
    have cf := MR.out w' hw'
    go_simp
    try with_reducible rfl
  (try dsimp only [Act.put]); (try simp only [List.setIfInBounds_toArray, List.set_cons_zero, List.set_cons_succ])
  refine wpAnyH_ready (rs := [1]) (by kernel_rfl) (by simp) (AllReadyH.cons rfl (fun K hK => ?_) AllReadyH.nil)
  go_simp
  refine (BdA.needed_any u _).mono ?_
  rintro e w' ⟨rfl, hb⟩
  have hq := hS.trans (hb.mono hS.size)
  clear hS hb
  rename World => v
  go_simp
  refine hK.out _ _ hq (fun hS => ?_)
  clear hK K hq
  generalize BdA.neededP u = z at ER ⊢
  refine Held.take (i := 4) (some 18) rfl (v := .int .i64 (max z u.top)) rfl (by kernel_rfl) (by kernel_rfl) (by kernel_rfl) (fun _ _ _ h => h) (Or.inl ⟨by rfl, ?_⟩) hS ?_
  · intro w' hw'
    go_simp
    try (first | rfl | (simp only [Int.max_def]; split <;> split <;> omega))
  (try dsimp only [Act.put]); (try simp only [List.setIfInBounds_toArray, List.set_cons_zero, List.set_cons_succ])
  generalize max z u.top = mo at ER ⊢
  refine wpAnyH_ready (rs := [13]) (by kernel_rfl) (by simp) (AllReadyH.cons rfl (fun K hK => ?_) AllReadyH.nil)
  go_simp
  have R3 : Hid (IntRow (v.alloc (.cells #[I mo, I T.extend, I u.yellow, I u.red, I T.revert, I 8] 3)) ⟨some ⟨v.heap.size, 0, none⟩, 6⟩ [mo, T.extend, u.yellow, u.red, T.revert, 8]) := Lib.hid (row_new v 3 [mo, T.extend, u.yellow, u.red, T.revert, 8] 6 rfl (by decide) _ rfl)
  have hq := hS.alloc hS.size (.cells #[I mo, I T.extend, I u.yellow, I u.red, I T.revert, I 8] 3)
  clear hS
  generalize v.heap.size = b3 at R3 ⊢
  generalize World.alloc v _ = v at R3 hq ⊢
  refine hK.out _ _ hq (fun hS => ?_)
  clear hK K hq
  refine wpAnyH_ready (rs := [14]) (by kernel_rfl) (by simp) (AllReadyH.cons rfl (fun K hK => ?_) AllReadyH.nil)
  go_simp
  refine (BdS.sum_row (some ⟨b3, 0, none⟩) 6 [mo, T.extend, u.yellow, u.red, T.revert, 8] 6 rfl _ R3.out).mono ?_
  rintro e w' ⟨rfl, rfl⟩
  go_simp
  refine hK.out _ _ hS (fun hS => ?_)
  clear hK K
  rw [← ER.out, HE.out]
  refine Held.take (i := 15) (some 4) rfl (v := ?_) rfl (by kernel_rfl) (by kernel_rfl) (by kernel_rfl) (fun _ _ _ h => h) (Or.inl ⟨by rfl, ?_⟩) hS ?_
  rotate_left
  · intro w' hw'
    go_simp
    try with_reducible rfl
  (try dsimp only [Act.put]); (try simp only [List.setIfInBounds_toArray, List.set_cons_zero, List.set_cons_succ])
  refine wpAnyH_done (by kernel_rfl) ?_ _
  have HF := Lib.hid (S3.out.bel.trans (hS.mono S3.out.bel.size))
  clear hS
  go_wp2
  go_ret
  exact ⟨rfl, HF.out⟩
end Go.Proofs.YtjolhoilcibdfaaGreat.BdV
/- What a group's crossing takes: by its spots and by its rows. Plain mathematics. -/
namespace Go.Proofs.YtjolhoilcibdfaaGreat.BdPM
open Tab PlaceM RefC ServeS PassS BdM
set_option linter.unusedVariables false
set_option linter.unusedSimpArgs false
/-- What the spots of group g give. -/
def tg (T : Tab) (g : Int) (l : List Spt) : Int := tot (passL T g l)
theorem tg_append (T : Tab) (g : Int) (l m : List Spt) : tg T g (l ++ m) = tg T g l + tg T g m := by
  unfold tg passL; rw [List.filter_append, List.map_append, tot_append]
theorem serve_off (T : Tab) (p : Int) (h : ¬ (0 ≤ p ∧ p < 8)) : serveS T p = 0 := by
  unfold serveS
  rw [if_neg]
  intro hh
  exact h (SetM.list_bd _ p ((SetM.mem_list _ p).2 hh))
theorem tg_row (T : Tab) (g : Int) (g' k : Nat) : ∀ (i : Nat) (l : List Int), tg T g (rowS g' k i l) = if (g' : Int) = g then tot (l.map (serveS T)) else 0
  | i, [] => by
    have : tg T g (rowS g' k i []) = 0 := rfl
    rw [this]; split <;> rfl
  | i, p :: l => by
    rw [rowS, tg_append, tg_row T g g' k (i + 1) l, List.map_cons, tot_cons]
    unfold one
    by_cases hp : 0 ≤ p ∧ p < 8
    · rw [if_pos hp]
      by_cases e : (g' : Int) = g
      · have : tg T g [(⟨g', k, i, p⟩ : Spt)] = cap (serveS T p) := by
          unfold tg passL
          simp [e, tot_cons, tot_nil]
        rw [this, if_pos e, if_pos e]
      · have : tg T g [(⟨g', k, i, p⟩ : Spt)] = 0 := by
          unfold tg passL
          simp [e, tot_nil]
        rw [this, if_neg e, if_neg e]; rfl
    · rw [if_neg hp, serve_off T p hp]
      have : tg T g [] = 0 := rfl
      rw [this]
      split <;> simp [show cap 0 = 0 from rfl]
theorem tg_before (T : Tab) (g : Int) : ∀ (G : List (List Int × List Int)) (s : Nat), g < s → tg T g (allS s G) = 0
  | [], s, h => rfl
  | x :: l, s, h => by
    rw [allS, tg_append, grpS, tg_append, tg_row, tg_row, tg_before T g l (s + 1) (by omega), if_neg (by omega), if_neg (by omega)]; rfl
theorem tg_all (T : Tab) (g : Int) : ∀ (G : List (List Int × List Int)) (s j : Nat) (y : List Int × List Int), G[j]? = some y → g = s + j → tg T g (allS s G) = tot ((y.1 ++ y.2).map (serveS T))
  | [], s, j, y, h, e => by simp at h
  | x :: l, s, 0, y, h, e => by
    obtain rfl : x = y := by simpa using h
    rw [allS, tg_append, grpS, tg_append, tg_row, tg_row, tg_before T g l (s + 1) (by omega), if_pos (by omega), if_pos (by omega), List.map_append, tot_append]; omega
  | x :: l, s, j + 1, y, h, e => by
    rw [allS, tg_append, grpS, tg_append, tg_row, tg_row, if_neg (by omega), if_neg (by omega), tg_all T g l (s + 1) j y (by simpa using h) (by omega)]; omega
theorem pass_rows {T : Tab} {q : Nat} {y : List Int × List Int} (h : T.groups[q]? = some y) : passS T q = sums (8 :: (y.1 ++ y.2).map (serveS T)) := by
  have hl := (List.getElem?_eq_some_iff.1 h).1
  unfold passS
  rw [if_pos (by omega), sums_tot, sums_tot, tot_cons, tot_cons]
  have := tg_all T q T.groups 0 q y h (by omega)
  unfold tg at this
  rw [show passL T q (spots T) = passL T q (allS 0 T.groups) from rfl, this]
/-- What comes behind r rows. -/
def acc (T : Tab) (l0 l1 : List Int) (r : Nat) : List Int := 8 :: ((if r = 0 then [] else if r = 1 then l0 else l0 ++ l1).map (serveS T))
theorem acc0 (T : Tab) (l0 l1 : List Int) : acc T l0 l1 0 = [8] := rfl
theorem acc1 (T : Tab) (l0 l1 : List Int) : acc T l0 l1 1 = [8] ++ l0.map (serveS T) := rfl
theorem acc2 (T : Tab) (l0 l1 : List Int) : acc T l0 l1 2 = acc T l0 l1 1 ++ l1.map (serveS T) := by
  show 8 :: ((l0 ++ l1).map (serveS T)) = 8 :: (l0.map (serveS T)) ++ l1.map (serveS T)
  rw [List.map_append]; rfl
theorem inner_step (T : Tab) (A l : List Int) {i : Nat} {p : Int} (h : l[i]? = some p) : A ++ (l.take (i + 1)).map (serveS T) = (A ++ (l.take i).map (serveS T)) ++ [serveS T p] := by
  rw [PlaceM.take_succ h, List.map_append, List.append_assoc]; rfl
end Go.Proofs.YtjolhoilcibdfaaGreat.BdPM
/- The contract of package bound's Pass: it answers what the document's own does. -/
namespace Go.Proofs.YtjolhoilcibdfaaGreat.BdP
open Go.ChangeShapes Go.WideShapes Go.ChangeAt Go.RowKit
open Tab Gath OnS RefC Clear
open May (St phases_in infoP infoT row_new)
set_option linter.unusedVariables false
set_option linter.unusedSimpArgs false
open ServeS PassS PlaceM BdPM
open RefS (info3)
theorem info2 : (Tryz.prog.info? 41).map (·.size) = some 2 := by kernel_rfl
theorem idx0 (v0 v1 : Value) (w : World) : Sem.run Tryz.prog (Instr.index 41 (.agg #[v0, v1]) (.int .i64 0)) w = .ok v0 w := by kernel_rfl
theorem idx1 (v0 v1 : Value) (w : World) : Sem.run Tryz.prog (Instr.index 41 (.agg #[v0, v1]) (.int .i64 1)) w = .ok v1 w := by kernel_rfl
theorem row_cell {w : World} {a : Option Addr} {cap : Nat} {l : List Int} {i : Nat} {p : Int} (h : IntRow w ⟨a, cap⟩ l) (hp : l[i]? = some p) : ∃ x, a = some x ∧ w.cell? (x.add i) = some (I p) := by
  obtain ⟨x, hx, hc⟩ := IntRow.at h hp
  exact ⟨x, hx, hc⟩
set_option maxRecDepth 100000 in
set_option maxHeartbeats 8000000 in
theorem ppass_any (T : Tab) (h : Hd) (g : Int) (w : World) (ht : IsTab w h T) (sm : Few T) :
    Calls Tryz.prog 27 #[.agg (T.cells h).toArray, .int .i64 g] w fun e w' => e = .returned (.int .i64 (passS T g)) ∧ Below w.heap.size w w' := by
  have C := Lib.hid (cells_ok ht)
  have hsz := C.out.size
  have IA : Hid ((Tryz.prog.info? 32).map (·.size) = some (T.cells h).length) := Lib.hid (by rw [List.size_toArray] at hsz; rw [hsz]; exact infoT)
  have SVC : Hid (∀ p W, Below w.heap.size w W → Calls Tryz.prog 25 #[.agg (T.cells h).toArray, .int .i64 p] W fun e w' => e = .returned (.int .i64 (serveS T p)) ∧ Below W.heap.size W w') := Lib.hid (fun p W hb => BdV.pserve_any T h p W (ht.below hb))
  have S0 := Lib.hid (St.box (cs := (T.cells h).toArray) ht)
  obtain ⟨gs, hgd, hgr⟩ := ht.groups
  have Hgr := Lib.hid hgr
  have Hgd := Lib.hid hgd
  have Hgl := Lib.hid (show T.groups.length = gs.length by rw [← hgd, List.length_map])
  have Kg := hgr.1.len
  unfold maxLen at Kg
  have RW := Lib.hid sm.rows
  have RS0 : passS T g = if 0 ≤ g ∧ g < T.groups.length then sums (8 :: passL T g (spots T)) else 0 := rfl
  have RN : Hid (¬ (0 ≤ g ∧ g < T.groups.length) → passS T g = 0) := Lib.hid (fun hn => by rw [RS0, if_neg hn])
  have RS : Hid (∀ (q : Nat) (y : List Int × List Int), g = q → T.groups[q]? = some y → passS T g = sums (acc T y.1 y.2 2)) := Lib.hid (fun q y hg hy => by subst hg; exact pass_rows hy)
  clear RS0
  generalize passS T g = res at RN RS ⊢
  obtain ⟨i0, hi, hz0, hz1, hz2⟩ := info_parts info3
  clear ht sm hgr hgd
  go_enter Tryz.func27, Tryz.ntmps27
  go_upto_region 1 with fail
  generalize w.alloc (.cells (T.cells h).toArray 32) = w1 at S0 ⊢
  have q104 := C.out.g
  generalize hc : T.cells h = c at *
  clear hsz hc
  obtain ⟨⟨ga, gcap⟩, sd, sr, sb⟩ := h
  have Q104 : Hid (∀ W, Below w1.heap.size w1 W → W.cell? ⟨w.heap.size, 104, none⟩ = some (.slice ga gs.length gcap)) := Lib.hid (fun W hb => by rw [← Hgl.out]; exact (S0.out.step hb).cell q104)
  have LT : Hid (∀ W, Below w1.heap.size w1 W → Lies W ⟨w.heap.size, 0, none⟩ c) := Lib.hid (fun W hb => by have := Row.lies_of_block (S0.out.step hb).blk; simpa using this)
  have BB : Hid (∀ W, Below w1.heap.size w1 W → Below w.heap.size w W) := Lib.hid (fun W hb => S0.out.bel.trans (hb.mono S0.out.bel.size))
  clear q104
  have q104 := Q104.out _ (Below.refl _ _)
  by_cases hg0 : g < 0
  · have HF : Hid (0 = res) := Lib.hid (RN.out (by omega)).symm
    go_wp2
    go_ret
    exact ⟨RefC.ret_int HF.out, S0.out.bel⟩
  obtain ⟨q, rfl⟩ := Int.eq_ofNat_of_zero_le (show 0 ≤ g by omega)
  by_cases hg1 : gs.length ≤ q
  · have HF : Hid (0 = res) := Lib.hid (RN.out (by have := Hgl.out; omega)).symm
    go_wp2
    go_ret
    exact ⟨RefC.ret_int HF.out, S0.out.bel⟩
  have hlt : q < gs.length := by omega
  have hv := List.getElem?_eq_getElem hlt
  have hm := List.getElem_mem hlt
  generalize gs[q] = v at hv hm
  have HRS : Hid (res = sums (acc T v.r0 v.r1 2)) := Lib.hid (RS.out q v.data rfl (by rw [← Hgd.out, List.getElem?_map, hv]; rfl))
  have hrw := RW.out v.data (by rw [← Hgd.out]; exact List.mem_map_of_mem hm)
  have KL0 : Hid (v.r0.length ≤ 1000) := Lib.hid hrw.1
  have KL1 : Hid (v.r1.length ≤ 1000) := Lib.hid hrw.2
  clear hrw RN RS
  go_upto_region 4 with fail
  have hb1 : Below w1.heap.size w1 (w1.alloc (.cells #[.int .i64 8] 3)) := (Below.refl _ _).alloc (Nat.le_refl _) _
  have ho1 : OwnsI w1.heap.size (w1.alloc (.cells #[.int .i64 8] 3)) (.slice (some ⟨w1.heap.size, 0, none⟩) 1 1) [8] := own_one w1 8
  have O1 := Lib.hid ho1
  have B1 := Lib.hid hb1
  clear ho1 hb1 q104 hg0 hg1
  generalize w1.alloc (.cells #[.int .i64 8] 3) = w2 at O1 B1 ⊢
  obtain ⟨x, hx, hcc⟩ := (Hgr.out.1.below (BB.out _ B1.out)).at hv
  obtain rfl : ga = some x := hx
  have OK := Lib.hid (Hgr.out.2 v hm)
  have HCC := Lib.hid hcc
  clear hv hm hcc
  have q104 := Q104.out _ B1.out
  go_upto_region 5 with (refine Row.wpList_load_g 41 _ rfl (by first | rfl | go_simp) (x.add (q * 2)) rfl v.cells _ HCC.out Tryz.underlying41 rfl info2 ?_)
  (try dsimp only [Act.put])
  obtain ⟨r0, r1, ⟨a0, cap0⟩, ⟨a1, cap1⟩⟩ := v
  have R0 : Hid (∀ W, Below w1.heap.size w1 W → IntRow W ⟨a0, cap0⟩ r0) := Lib.hid (fun W hb => OK.out.1.below (BB.out _ hb))
  have R1 : Hid (∀ W, Below w1.heap.size w1 W → IntRow W ⟨a1, cap1⟩ r1) := Lib.hid (fun W hb => OK.out.2.below (BB.out _ hb))
  have K0 := KL0.out
  have K1 := KL1.out
  dsimp only at K0 K1
  have HV : (Gr.cells ⟨r0, r1, ⟨a0, cap0⟩, ⟨a1, cap1⟩⟩).toArray = #[.slice a0 r0.length cap0, .slice a1 r1.length cap1] := rfl
  rw [HV]
  have RES : Hid (sums (acc T r0 r1 2) = res) := Lib.hid HRS.out.symm
  have A0 : Hid (acc T r0 r1 0 = [8]) := Lib.hid (acc0 _ _ _)
  have A1 : Hid (acc T r0 r1 1 = acc T r0 r1 0 ++ r0.map (serveS T)) := Lib.hid (acc1 _ _ _)
  have A2 : Hid (acc T r0 r1 2 = acc T r0 r1 1 ++ r1.map (serveS T)) := Lib.hid (acc2 _ _ _)
  have I0 := Lib.hid (idx0 (.slice a0 r0.length cap0) (.slice a1 r1.length cap1))
  have I1 := Lib.hid (idx1 (.slice a0 r0.length cap0) (.slice a1 r1.length cap1))
  clear HV HRS OK HCC q104 Hgr Hgd KL0 KL1
  generalize acc T r0 r1 = ac at RES A0 A1 A2
  have B2 : Hid (Below w1.heap.size w1 w2) := B1
  have AL0 : Hid ((ac 0).length ≤ 1) := Lib.hid (by rw [A0.out]; exact Nat.le_refl _)
  have AL1 : Hid ((ac 1).length ≤ 1001) := Lib.hid (by rw [A1.out, List.length_append, List.length_map]; have := AL0.out; omega)
  go_wp2_with fail
  go_loopw [5, 25] (fun v i wr => ∃ r : Nat, r ≤ 2 ∧ i = .int .i64 r ∧ OwnsI w1.heap.size wr v (ac r) ∧ Below w1.heap.size w1 wr) (fun _ i _ => 2 - (intOf i).toNat)
  case atStart => exact ⟨0, by omega, rfl, by rw [A0.out]; exact O1.out, B1.out⟩
  case round =>
    obtain ⟨r, hr, rfl, hown, hbel⟩ := hrel
    have HO := Lib.hid hown
    have HB := Lib.hid hbel
    clear hown hbel
    have hr2 : r = 0 ∨ r = 1 ∨ r = 2 := by omega
    rcases hr2 with rfl | rfl | rfl
    · rw [show ((0 : Nat) : Int) = (0 : Int) from rfl]
      have i0 := I0.out
      go_wp2_with fail
      clear i0
      rename World => wo
      have HBo := HB
      have OI : Hid (OwnsI w1.heap.size wo u5 (ac 0 ++ (r0.take 0).map (serveS T))) := Lib.hid (by rw [List.take_zero, List.map_nil, List.append_nil]; exact HO.out)
      clear HO HB
      go_loopw [5, 30] (fun v i wr => ∃ j : Nat, j ≤ r0.length ∧ i = .int .i64 j ∧ OwnsI w1.heap.size wr v (ac 0 ++ (r0.take j).map (serveS T)) ∧ Below w1.heap.size w1 wr) (fun _ i _ => r0.length - (intOf i).toNat)
      case atStart => exact ⟨0, by omega, rfl, OI.out, HBo.out⟩
      case round =>
        obtain ⟨j, hj, rfl, hown, hbel⟩ := hrel
        have HO := Lib.hid hown
        have HB := Lib.hid hbel
        clear hown hbel
        by_cases hlt : j < r0.length
        · have hv := List.getElem?_eq_getElem hlt
          have HS := Lib.hid (inner_step T (ac 0) r0 hv)
          generalize r0[j] = p at hv HS
          obtain ⟨y, hy, hc⟩ := row_cell (R0.out _ HB.out) hv
          obtain rfl : a0 = some y := hy
          have HBw : Hid (Below w1.heap.size w1 wr) := HB
          have hlen : (ac 0 ++ (r0.take j).map (serveS T)).length ≤ 2001 := by rw [List.length_append, List.length_map, List.length_take]; have := AL0.out; omega
          clear hv
          generalize hP1 : ac 0 ++ (r0.take j).map (serveS T) = P1 at HO hlen HS
          clear hP1
          go_wp2_with (refine Row.wpList_load_g 32 _ rfl (by first | rfl | go_simp) ⟨w.heap.size, 0, none⟩ rfl c _ (LT.out _ HBw.out) Tryz.underlying32 rfl IA.out ?_)
          refine (SVC.out p _ (BB.out _ HBw.out)).mono ?_
          rintro e w5 ⟨rfl, hb⟩
          have HB5 := Lib.hid (HBw.out.trans (hb.mono HBw.out.size))
          have HO5 := Lib.hid (HO.out.below hb)
          clear hb HB HBw HO hc
          generalize serveS T p = x2 at HS ⊢
          have hown2 : w5.ownsRow w1.heap.size 3 1 u5 P1.length (P1.flatMap (fun n => [I n])) := HO5.out
          have hsz5 := HB5.out.size
          go_wp2_with (at_builtin; refine wpList_append_own _ rfl _ _ 22 rfl w1.heap.size 3 i0 (.int .i64 0) 1 8 Tryz.underlying22 hi hz0 hz1 hz2 rfl (by decide) _ _ _ rfl (hown2.alloc _) ⟨w5.heap.size, 0, none⟩ 1 1 [.int .i64 x2] rfl rfl ?c1 ?c2 ?c3 ?c4 ?c5 ?_)
          case c1 =>
            intro m q hm
            match m, hm with
            | 0, hm => simp at hm; subst hm; simp [Addr.add]
          case c2 => intro q hq; simp at hq; subst hq; rfl
          case c3 => unfold maxLen; omega
          case c4 => omega
          case c5 => simp; omega
          intro v' w6 hown' hgrow hnil'
          have HB6 : Hid (Below w1.heap.size w1 w6) := Lib.hid ((HB5.out.alloc hsz5 _).grown hgrow (by simp; omega) fun m hm => (show OwnsI w1.heap.size w5 u5 P1 from hown2).blk m hm)
          have HO6 : Hid (OwnsI w1.heap.size w6 v' (P1 ++ [x2])) := Lib.hid (Owns.snoc hown')
          clear hown' hgrow hown2 hnil'
          go_wp2
          go_roundw
          case rel => exact ⟨j + 1, by omega, by go_num, by rw [HS.out]; exact HO6.out, HB6.out⟩
          case measure => simp [intOf]; omega
        · obtain rfl : j = r0.length := by omega
          rw [List.take_length] at HO
          go_wp2
          go_roundw
          case rel => exact ⟨1, by omega, by go_num, by rw [A1.out]; exact HO.out, HB.out⟩
          case measure => simp [intOf]
    · rw [show ((1 : Nat) : Int) = (1 : Int) from rfl]
      have i1 := I1.out
      go_wp2_with fail
      clear i1
      rename World => wo
      have HBo := HB
      have OI : Hid (OwnsI w1.heap.size wo u5 (ac 1 ++ (r1.take 0).map (serveS T))) := Lib.hid (by rw [List.take_zero, List.map_nil, List.append_nil]; exact HO.out)
      clear HO HB
      go_loopw [5, 30] (fun v i wr => ∃ j : Nat, j ≤ r1.length ∧ i = .int .i64 j ∧ OwnsI w1.heap.size wr v (ac 1 ++ (r1.take j).map (serveS T)) ∧ Below w1.heap.size w1 wr) (fun _ i _ => r1.length - (intOf i).toNat)
      case atStart => exact ⟨0, by omega, rfl, OI.out, HBo.out⟩
      case round =>
        obtain ⟨j, hj, rfl, hown, hbel⟩ := hrel
        have HO := Lib.hid hown
        have HB := Lib.hid hbel
        clear hown hbel
        by_cases hlt : j < r1.length
        · have hv := List.getElem?_eq_getElem hlt
          have HS := Lib.hid (inner_step T (ac 1) r1 hv)
          generalize r1[j] = p at hv HS
          obtain ⟨y, hy, hc⟩ := row_cell (R1.out _ HB.out) hv
          obtain rfl : a1 = some y := hy
          have HBw : Hid (Below w1.heap.size w1 wr) := HB
          have hlen : (ac 1 ++ (r1.take j).map (serveS T)).length ≤ 2001 := by rw [List.length_append, List.length_map, List.length_take]; have := AL1.out; omega
          clear hv
          generalize hP1 : ac 1 ++ (r1.take j).map (serveS T) = P1 at HO hlen HS
          clear hP1
          go_wp2_with (refine Row.wpList_load_g 32 _ rfl (by first | rfl | go_simp) ⟨w.heap.size, 0, none⟩ rfl c _ (LT.out _ HBw.out) Tryz.underlying32 rfl IA.out ?_)
          refine (SVC.out p _ (BB.out _ HBw.out)).mono ?_
          rintro e w5 ⟨rfl, hb⟩
          have HB5 := Lib.hid (HBw.out.trans (hb.mono HBw.out.size))
          have HO5 := Lib.hid (HO.out.below hb)
          clear hb HB HBw HO hc
          generalize serveS T p = x2 at HS ⊢
          have hown2 : w5.ownsRow w1.heap.size 3 1 u5 P1.length (P1.flatMap (fun n => [I n])) := HO5.out
          have hsz5 := HB5.out.size
          go_wp2_with (at_builtin; refine wpList_append_own _ rfl _ _ 22 rfl w1.heap.size 3 i0 (.int .i64 0) 1 8 Tryz.underlying22 hi hz0 hz1 hz2 rfl (by decide) _ _ _ rfl (hown2.alloc _) ⟨w5.heap.size, 0, none⟩ 1 1 [.int .i64 x2] rfl rfl ?c1 ?c2 ?c3 ?c4 ?c5 ?_)
          case c1 =>
            intro m q hm
            match m, hm with
            | 0, hm => simp at hm; subst hm; simp [Addr.add]
          case c2 => intro q hq; simp at hq; subst hq; rfl
          case c3 => unfold maxLen; omega
          case c4 => omega
          case c5 => simp; omega
          intro v' w6 hown' hgrow hnil'
          have HB6 : Hid (Below w1.heap.size w1 w6) := Lib.hid ((HB5.out.alloc hsz5 _).grown hgrow (by simp; omega) fun m hm => (show OwnsI w1.heap.size w5 u5 P1 from hown2).blk m hm)
          have HO6 : Hid (OwnsI w1.heap.size w6 v' (P1 ++ [x2])) := Lib.hid (Owns.snoc hown')
          clear hown' hgrow hown2 hnil'
          go_wp2
          go_roundw
          case rel => exact ⟨j + 1, by omega, by go_num, by rw [HS.out]; exact HO6.out, HB6.out⟩
          case measure => simp [intOf]; omega
        · obtain rfl : j = r1.length := by omega
          rw [List.take_length] at HO
          go_wp2
          go_roundw
          case rel => exact ⟨2, by omega, by go_num, by rw [A2.out]; exact HO.out, HB.out⟩
          case measure => simp [intOf]
    · rw [show ((2 : Nat) : Int) = (2 : Int) from rfl]
      obtain ⟨⟨sa', sc⟩, hs, hrow⟩ := HO.out.row (enc := fun n => [I n]) (fun _ => rfl)
      have HR2 := Lib.hid hrow
      have HF := Lib.hid (BB.out _ HB.out)
      clear hrow
      subst hs
      generalize ac 2 = P2 at RES HR2 ⊢
      show Code.wp _ _ _ _ _
      rw [show (Sl.val ⟨sa', sc⟩ P2.length) = .slice sa' P2.length sc from rfl]
      go_wp2_with fail
      refine (BdS.sum_row sa' sc P2 P2.length rfl _ HR2.out).mono ?_
      rintro e w' ⟨rfl, rfl⟩
      rw [RES.out]
      go_wp2
      go_ret
      exact ⟨rfl, HF.out⟩
end Go.Proofs.YtjolhoilcibdfaaGreat.BdP
/- The contracts of plan.Where and plan.Beside: what the document's own find. -/
namespace Go.Proofs.YtjolhoilcibdfaaGreat.PlanW
open Go.ChangeShapes Go.WideShapes Go.ChangeAt Go.RowKit
open Tab PlaceM PlanM
open May (ret_bool chain infoP infoG St)
open SetP (of_any has_any)
set_option linter.unusedVariables false
set_option linter.unusedSimpArgs false
theorem info2 : (Tryz.prog.info? 41).map (·.size) = some 2 := by kernel_rfl
theorem infoT : (Tryz.prog.info? 32).map (·.size) = some 131 := by kernel_rfl
theorem row_one (w : World) (p : Int) (t : TypeId) (b : Nat) (hb : w.heap.size = b) : RefS.Row (w.alloc (.cells #[.int .i64 p] t)) (some ⟨b, 0, none⟩) [p] := by
  subst hb
  refine ⟨by simp [maxLen], .inr ⟨_, rfl, fun i hi => ?_⟩⟩
  obtain rfl : i = 0 := by simpa using hi
  rw [RefS.add_zero, cell_of_row _ _ _ _ _ _ (heap_alloc_new w _)]
  rfl
theorem idx0 (v0 v1 : Value) (w : World) : Sem.run Tryz.prog (Instr.index 41 (.agg #[v0, v1]) (.int .i64 0)) w = .ok v0 w := by kernel_rfl
theorem idx1 (v0 v1 : Value) (w : World) : Sem.run Tryz.prog (Instr.index 41 (.agg #[v0, v1]) (.int .i64 1)) w = .ok v1 w := by kernel_rfl
theorem has_one (p q : Int) : SetM.has ((SetM.of [p] : Nat) : Int) q = (decide (0 ≤ p ∧ p < 8) && decide (q = p)) := by
  unfold SetM.has
  rw [SetM.low_nat _ (SetM.of_lt _), SetM.of_test]
  by_cases h0 : 0 ≤ q
  · obtain ⟨k, rfl⟩ := Int.eq_ofNat_of_zero_le h0
    simp only [Int.toNat_natCast, List.mem_singleton, h0, decide_true, Bool.true_and]
    rw [Bool.eq_iff_iff]
    simp only [Bool.and_eq_true, decide_eq_true_eq]
    omega
  · rw [decide_eq_false h0, Bool.false_and]
    symm
    rw [Bool.and_eq_false_iff, decide_eq_false_iff_not, decide_eq_false_iff_not]
    omega
theorem results_tmp4 {P : Program} {fn : Func} {t u v x : Tmp} (h : fn.results = #[.tmp t, .tmp u, .tmp v, .tmp x]) (tmps : Array Value) (w : World) :
    (results fn tmps).run P w = .ok (.tuple #[tmps.getD t undef, tmps.getD u undef, tmps.getD v undef, tmps.getD x undef]) w := by
  simp [results, h]
def wG : Option Spt → Int | some x => x.g | none => 0
def wK : Option Spt → Int | some x => x.k | none => 0
def wI : Option Spt → Int | some x => x.i | none => 0
/-- Nothing that is looked for before a place. -/
theorem where_none {T : Tab} {p : Int} (h : ∀ x ∈ spots T, x.p ≠ p) : where_ T p = none := find_none h
theorem where_some {T : Tab} {p : Int} {x : Spt} (hx : x ∈ spots T) (hp : x.p = p) (hn : ∀ y ∈ spots T, Lt y x → y.p ≠ p) : where_ T p = some x := by
  unfold where_ find
  exact find_hit (spots_sorted T) hx (by simpa using hp) (fun y hy hl => by simpa using hn y hy hl)
set_option maxRecDepth 100000 in
set_option maxHeartbeats 4000000 in
theorem pwhere_any (T : Tab) (h : Hd) (p : Int) (w : World) (ht : IsTab w h T) :
    Calls Tryz.prog 63 #[.agg (T.cells h).toArray, .int .i64 p] w fun e w' => e = .returned (.tuple #[I (wG (where_ T p)), I (wK (where_ T p)), I (wI (where_ T p)), .bool (where_ T p).isSome]) ∧ Below w.heap.size w w' := by
  obtain ⟨⟨ga, gcap⟩, sd, sr, sb⟩ := h
  have C := Lib.hid (cells_ok ht)
  generalize (T.cells ⟨⟨ga, gcap⟩, sd, sr, sb⟩).toArray = cs at C ⊢
  obtain ⟨gs, hgd, hgr⟩ := ht.groups
  have Hgr := Lib.hid hgr
  have Hgd := Lib.hid hgd
  have hsz := C.out.size
  have S0 := Lib.hid (St.box (cs := cs) ht)
  have Hgl := Lib.hid (show T.groups.length = gs.length by rw [← hgd, List.length_map])
  have Kg := hgr.1.len
  unfold maxLen at Kg
  have HS : Hid (∀ q, SetM.has ((SetM.of [p] : Nat) : Int) q = (decide (0 ≤ p ∧ p < 8) && decide (q = p))) := Lib.hid (has_one p)
  have WN : Hid ((∀ x ∈ spots T, x.p ≠ p) → where_ T p = none) := Lib.hid where_none
  have WS : Hid (∀ x, x ∈ spots T → x.p = p → (∀ y ∈ spots T, Lt y x → y.p ≠ p) → where_ T p = some x) := Lib.hid (fun x => where_some)
  generalize where_ T p = o at WN WS ⊢
  clear ht hgr hgd
  go_enter Tryz.func63, Tryz.ntmps63
  go_upto_region 1 with fail
  generalize w.alloc (.cells cs 32) = w1 at S0 ⊢
  clear hsz
  go_step3
  go_wp2_with fail
  have hb1 : Below w1.heap.size w1 (w1.alloc (.cells #[.int .i64 p] 3)) := (Below.refl _ _).alloc (Nat.le_refl _) _
  have hr := row_one w1 p 3 _ rfl
  have S2 := Lib.hid (S0.out.step hb1)
  have HR := Lib.hid hr
  clear hb1 hr S0
  generalize w1.alloc (.cells #[.int .i64 p] 3) = w2 at S2 HR ⊢
  refine (of_any _ _ [p] _ HR.out).mono ?_
  rintro e w' ⟨rfl, rfl⟩
  generalize ((SetM.of [p] : Nat) : Int) = s0 at HS ⊢
  clear HR
  have q104 := S2.out.cell C.out.g
  rw [Hgl.out] at q104
  have Q104 : Hid (w2.cell? ⟨w.heap.size, 104, none⟩ = some (.slice ga gs.length gcap)) := Lib.hid q104
  clear q104
  have q104 := Q104.out
  have LIFT : Hid (∀ W, Below w2.heap.size w2 W → ∀ (z : Addr) (c : Value), w2.cell? z = some c → W.cell? z = some c) := Lib.hid (fun W hb z c hc => (hb.cell (World.block_lt_of_cell? w2 _ hc)).trans hc)
  go_wp2_with fail
  go_step3
  go_wp2_with fail
  clear q104
  go_loopw [4, 5, 6, 7, 21] (fun a b c d g wr => ∃ q : Nat, q ≤ gs.length ∧ a = .int .i64 0 ∧ b = .int .i64 0 ∧ c = .int .i64 0 ∧ d = .bool false ∧ g = .int .i64 q ∧ (∀ x ∈ spots T, x.g < q → x.p ≠ p) ∧ Below w2.heap.size w2 wr) (fun _ _ _ _ g _ => gs.length - (intOf g).toNat)
  case atStart => exact ⟨0, by omega, rfl, rfl, rfl, rfl, rfl, (fun x _ h => by omega), Below.refl _ _⟩
  case round =>
    obtain ⟨q, hq, rfl, rfl, rfl, rfl, rfl, hall, hbel⟩ := hrel
    have HA := Lib.hid hall
    have HB := Lib.hid hbel
    clear hall hbel
    by_cases hlt : q < gs.length
    · have hv := List.getElem?_eq_getElem hlt
      generalize gs[q] = u at hv
      obtain ⟨x, hx, hc⟩ := (Hgr.out.1.below (S2.out.bel.trans (HB.out.mono S2.out.bel.size))).at hv
      have hok := (Hgr.out.2 u (List.mem_of_getElem? hv)).below (S2.out.bel.trans (HB.out.mono S2.out.bel.size))
      have HD : Hid (T.groups[q]? = some u.data) := Lib.hid (by rw [← Hgd.out, List.getElem?_map, hv]; rfl)
      obtain rfl : ga = some x := hx
      obtain ⟨l0, l1, ⟨a0, cap0⟩, ⟨a1, cap1⟩⟩ := u
      have HC : Hid (Lies wr (x.add (q * 2)) [.slice a0 l0.length cap0, .slice a1 l1.length cap1]) := Lib.hid hc
      have HO := Lib.hid hok
      clear hv hc hok
      have hwr := HB.out.size
      go_upto_region 5 with (first | (refine Row.wpList_load_g 41 _ rfl (by first | rfl | go_simp) (x.add (q * 2)) rfl [.slice a0 l0.length cap0, .slice a1 l1.length cap1] _ HC.out Tryz.underlying41 rfl info2 ?_) | (refine Row.wpList_store_new rfl 41 _ _ rfl wr #[.slice none 0 0, .slice none 0 0] #[.slice a0 l0.length cap0, .slice a1 l1.length cap1] rfl rfl rfl info2 rfl (by simp [Value.oneCell']) ?_))
      have hbn : Below w2.heap.size w2 (wr.alloc (.cells #[.slice a0 l0.length cap0, .slice a1 l1.length cap1] 41)) := HB.out.alloc hwr _
      have hbo : Below wr.heap.size wr (wr.alloc (.cells #[.slice a0 l0.length cap0, .slice a1 l1.length cap1] 41)) := (Below.refl _ _).alloc (Nat.le_refl _) _
      have hg := Row.lies_of_block (heap_alloc_new wr (.cells #[.slice a0 l0.length cap0, .slice a1 l1.length cap1] 41))
      have HL := Lib.hid hg
      have HO2 := Lib.hid (HO.out.below hbo)
      have HN := Lib.hid hbn
      clear hg hbn hbo HC HO
      generalize wr.alloc (.cells #[.slice a0 l0.length cap0, .slice a1 l1.length cap1] 41) = w4 at HL HO2 HN ⊢
      generalize wr.heap.size = b4 at HL ⊢
      go_wp2_with (first | (refine Row.wpList_load_g 41 _ rfl (by first | rfl | go_simp) ⟨b4, 0, none⟩ rfl [.slice a0 l0.length cap0, .slice a1 l1.length cap1] _ HL.out Tryz.underlying41 rfl info2 ?_))
      go_loopw [4, 5, 6, 7, 27] (fun a b c d k wk => ∃ r : Nat, r ≤ 2 ∧ a = .int .i64 0 ∧ b = .int .i64 0 ∧ c = .int .i64 0 ∧ d = .bool false ∧ k = .int .i64 r ∧ (∀ x ∈ spots T, x.g = q → x.k < r → x.p ≠ p) ∧ wk = w4) (fun _ _ _ _ k _ => 2 - (intOf k).toNat)
      case atStart => exact ⟨0, by omega, rfl, rfl, rfl, rfl, rfl, (fun x _ _ h => by omega), rfl⟩
      case round =>
        obtain ⟨r, hr, rfl, rfl, rfl, rfl, rfl, hall, rfl⟩ := hrel
        have HA2 := Lib.hid hall
        clear hall
        by_cases hr2 : r < 2
        · obtain ⟨l, a, cap, hidx, hrow, hring⟩ : ∃ (l : List Int) (a : Option Addr) (cap : Nat), (∀ W, Sem.run Tryz.prog (Instr.index 41 (.agg #[.slice a0 l0.length cap0, .slice a1 l1.length cap1]) (.int .i64 r)) W = .ok (.slice a l.length cap) W) ∧ IntRow wr ⟨a, cap⟩ l ∧ ringOf (l0, l1) r = l := by
            have : r = 0 ∨ r = 1 := by omega
            rcases this with rfl | rfl
            · exact ⟨l0, a0, cap0, fun W => idx0 _ _ W, HO2.out.1, rfl⟩
            · exact ⟨l1, a1, cap1, fun W => idx1 _ _ W, HO2.out.2, rfl⟩
          have HROW := Lib.hid hrow
          have HRING := Lib.hid hring
          have K := hrow.len
          unfold maxLen at K
          clear hrow hring
          go_wp2_with fail
          clear hidx
          go_loopw [4, 5, 6, 7, 33] (fun a0' b c d k wk => ∃ j : Nat, j ≤ l.length ∧ a0' = .int .i64 0 ∧ b = .int .i64 0 ∧ c = .int .i64 0 ∧ d = .bool false ∧ k = .int .i64 j ∧ (∀ i, i < j → SetM.has s0 (l.getD i 0) = false) ∧ wk = wr) (fun _ _ _ _ k _ => l.length - (intOf k).toNat)
          case atStart => exact ⟨0, by omega, rfl, rfl, rfl, rfl, rfl, (fun i h => by omega), rfl⟩
          case round =>
            obtain ⟨j, hj, rfl, rfl, rfl, rfl, rfl, hall, rfl⟩ := hrel
            have HA3 := Lib.hid hall
            clear hall
            by_cases hjl : j < l.length
            · have hv := List.getElem?_eq_getElem hjl
              generalize hz : l[j] = z at hv
              obtain ⟨y, hy, hp⟩ := IntRow.at HROW.out hv
              obtain rfl : a = some y := hy
              have HV := Lib.hid hv
              have hgd : l.getD j 0 = z := by rw [List.getD_eq_getElem?_getD, hv]; rfl
              have HGD := Lib.hid hgd
              clear hv hz hgd
              cases hh : SetM.has s0 z with
              | true =>
                have HF : Hid (o = some ⟨q, r, j, p⟩) := Lib.hid (by
                  have h1 := HS.out z
                  rw [hh] at h1
                  simp only [Eq.comm (a := true), Bool.and_eq_true, decide_eq_true_eq] at h1
                  obtain ⟨⟨p0, p8⟩, rfl⟩ := h1
                  refine WS.out _ (mem_spots.2 ⟨(l0, l1), HD.out, by rw [HRING.out]; exact HV.out, p0, p8⟩) rfl fun y hy hl => ?_
                  unfold Lt at hl
                  simp only at hl
                  rcases hl with hl | ⟨hl, hl2 | ⟨hl2, hl3⟩⟩
                  · exact HA.out y hy hl
                  · exact HA2.out y hy hl hl2
                  · intro e
                    obtain ⟨z, h2, h3, _⟩ := mem_spots.1 hy
                    rw [hl, HD.out] at h2
                    obtain rfl := Option.some.inj h2
                    have h4 : l[y.i]? = some y.p := by have := h3; rw [hl2] at this; rw [← HRING.out]; exact this
                    have h5 := HA3.out y.i hl3
                    rw [List.getD_eq_getElem?_getD, h4] at h5
                    have h6 := HS.out y.p
                    rw [show SetM.has s0 y.p = false from h5, e] at h6
                    simp [p0, p8] at h6)
                go_wp2_with (go_at_call 95; refine (has_any _ _ _).mono ?_; rintro e w' ⟨rfl, rfl⟩; rw [hh])
                (try rw [Exit.noGoto_ret])
                (try simp only [Exit.inBlock, Exit.then])
                refine bodyPost_ret (v := .tuple #[I q, I r, I j, .bool true]) ?_ rfl ⟨?_, ?_⟩
                · exact results_tmp4 (fn := Tryz.f63) (t := 4) (u := 5) (v := 6) (x := 7) rfl _ _
                · rw [HF.out]; rfl
                · exact S2.out.bel.trans (HN.out.mono S2.out.bel.size)
              | false =>
                go_wp2_with (go_at_call 95; refine (has_any _ _ _).mono ?_; rintro e w' ⟨rfl, rfl⟩; rw [hh])
                go_roundw
                case rel => exact ⟨j + 1, by omega, rfl, rfl, rfl, rfl, by go_num, (fun i hi => by
                  by_cases e : i = j
                  · subst e; rw [HGD.out]; exact hh
                  · exact HA3.out i (by omega)), trivial⟩
                case measure => simp [intOf]; omega
            · have HN : Hid (∀ x ∈ spots T, x.g = q → x.k < r + 1 → x.p ≠ p) := Lib.hid (fun y hy h1 h2 e => by
                by_cases h3 : y.k < r
                · exact HA2.out y hy h1 h3 e
                · obtain ⟨z, h4, h5, h6, h7⟩ := mem_spots.1 hy
                  rw [h1, HD.out] at h4
                  obtain rfl := Option.some.inj h4
                  have hk : y.k = r := by omega
                  have h8 : l[y.i]? = some y.p := by rw [hk] at h5; rw [← HRING.out]; exact h5
                  have h9 := HA3.out y.i (by have := (List.getElem?_eq_some_iff.1 h8).1; omega)
                  rw [List.getD_eq_getElem?_getD, h8] at h9
                  have h10 := HS.out y.p
                  rw [show SetM.has s0 y.p = false from h9, e] at h10
                  rw [e] at h6 h7
                  simp [h6, h7] at h10)
              go_wp2
              go_roundw
              case rel => exact ⟨r + 1, by omega, rfl, rfl, rfl, rfl, by go_num, HN.out, trivial⟩
              case measure => simp [intOf]; omega
        · have HN3 : Hid (∀ x ∈ spots T, x.g < q + 1 → x.p ≠ p) := Lib.hid (fun y hy h1 e => by
            by_cases h3 : y.g < q
            · exact HA.out y hy h3 e
            · obtain ⟨z, h4, h5, _⟩ := mem_spots.1 hy
              refine HA2.out y hy (by omega) ?_ e
              unfold ringOf at h5
              by_cases h6 : y.k = 0
              · omega
              · by_cases h7 : y.k = 1
                · omega
                · rw [if_neg h6, if_neg h7] at h5; simp at h5)
          go_wp2
          go_roundw
          case rel => exact ⟨q + 1, by omega, rfl, rfl, rfl, rfl, by go_num, HN3.out, HN.out⟩
          case measure => simp [intOf]; omega
    · have HF : Hid (o = none) := Lib.hid (WN.out (fun y hy => by
        refine HA.out y hy ?_
        obtain ⟨z, h4, _⟩ := mem_spots.1 hy
        have := (List.getElem?_eq_some_iff.1 h4).1
        rw [Hgl.out] at this
        omega))
      go_wp2
      (try rw [Exit.noGoto_ret])
      (try simp only [Exit.inBlock, Exit.then])
      refine bodyPost_ret (v := .tuple #[I 0, I 0, I 0, .bool false]) ?_ rfl ⟨?_, ?_⟩
      · exact results_tmp4 (fn := Tryz.f63) (t := 4) (u := 5) (v := 6) (x := 7) rfl _ _
      · rw [HF.out]; rfl
      · exact S2.out.bel.trans (HB.out.mono S2.out.bel.size)
set_option maxRecDepth 100000 in
set_option maxHeartbeats 4000000 in
theorem pbeside_raw (c : List Value) (p q g1 k1 i1 g2 k2 i2 : Int) (ok1 ok2 : Bool) (w : World) (hc : c.length = 131)
    (V1 : Hid (∀ W, Below w.heap.size w W → Calls Tryz.prog 63 #[.agg c.toArray, .int .i64 p] W fun e w' => e = .returned (.tuple #[I g1, I k1, I i1, .bool ok1]) ∧ Below W.heap.size W w'))
    (V2 : Hid (∀ W, Below w.heap.size w W → Calls Tryz.prog 63 #[.agg c.toArray, .int .i64 q] W fun e w' => e = .returned (.tuple #[I g2, I k2, I i2, .bool ok2]) ∧ Below W.heap.size W w')) :
    Calls Tryz.prog 112 #[.agg c.toArray, .int .i64 p, .int .i64 q] w fun e w' => e = .returned (.bool (ok1 && ok2 && g1 == g2 && k1 != k2)) ∧ Below w.heap.size w w' := by
  have hsz : c.toArray.size = 131 := by simpa using hc
  have IA : Hid ((Tryz.prog.info? 32).map (·.size) = some c.length) := Lib.hid (by rw [hc]; exact infoT)
  have A0 : Hid (Below w.heap.size w (w.alloc (.cells c.toArray 32))) := Lib.hid ((Below.refl _ _).alloc (Nat.le_refl _) _)
  have A1 : Hid (Lies (w.alloc (.cells c.toArray 32)) ⟨w.heap.size, 0, none⟩ c) := Lib.hid (Row.lies_new w _ _)
  generalize hr : (ok1 && ok2 && g1 == g2 && k1 != k2) = r
  have HR := Lib.hid hr
  clear hr hc
  go_enter Tryz.func112, Tryz.ntmps112
  go_upto_region 1 with fail
  generalize w.alloc (.cells c.toArray 32) = u at A0 A1 ⊢
  clear hsz
  go_wp2_with (refine Row.wpList_load_g 32 _ rfl (by first | rfl | go_simp) ⟨w.heap.size, 0, none⟩ rfl c _ A1.out Tryz.underlying32 rfl IA.out ?_)
  refine (V1.out _ A0.out).mono ?_
  rintro e u1 ⟨rfl, hb⟩
  have B0 : Hid (Below w.heap.size w u1) := Lib.hid (A0.out.trans (hb.mono A0.out.size))
  have B1 := Lib.hid (A1.out.below hb)
  clear hb A0 A1 V1
  go_wp2_with (refine Row.wpList_load_g 32 _ rfl (by first | rfl | go_simp) ⟨w.heap.size, 0, none⟩ rfl c _ B1.out Tryz.underlying32 rfl IA.out ?_)
  refine (V2.out _ B0.out).mono ?_
  rintro e u3 ⟨rfl, hb⟩
  have HF : Hid (Below w.heap.size w u3) := Lib.hid (B0.out.trans (hb.mono B0.out.size))
  clear hb B0 B1 V2 IA
  cases ok1
  · go_wp2
    go_ret
    exact ⟨ret_bool (by rw [← HR.out]; simp), HF.out⟩
  cases ok2
  · go_wp2
    go_ret
    exact ⟨ret_bool (by rw [← HR.out]; simp), HF.out⟩
  by_cases hg : g1 = g2
  · have e1 : (g1 == g2) = true := by simpa using hg
    have E1 := Lib.hid e1
    clear hg
    go_wp2
    go_ret
    exact ⟨ret_bool (by rw [← HR.out, E1.out]; simp), HF.out⟩
  · have e1 : (g1 == g2) = false := by simpa using hg
    have E1 := Lib.hid e1
    clear hg
    go_wp2
    go_ret
    exact ⟨ret_bool (by rw [← HR.out, E1.out]; simp), HF.out⟩
theorem pbeside_any (T : Tab) (h : Hd) (p q : Int) (w : World) (ht : IsTab w h T) :
    Calls Tryz.prog 112 #[.agg (T.cells h).toArray, .int .i64 p, .int .i64 q] w fun e w' => e = .returned (.bool (beside T p q)) ∧ Below w.heap.size w w' := by
  have hsz := (cells_ok ht).size
  rw [List.size_toArray] at hsz
  have V := fun r W (hb : Below w.heap.size w W) => pwhere_any T h r W (ht.below hb)
  have V1 := V p
  have V2 := V q
  have hB : beside T p q = match where_ T p, where_ T q with
    | some a, some b => a.g == b.g && a.k != b.k
    | _, _ => false := rfl
  rw [hB]
  generalize where_ T p = o1 at V1 ⊢
  generalize where_ T q = o2 at V2 ⊢
  have e0 : ∀ a b : Nat, ((a : Int) == (b : Int)) = (a == b) := fun a b => by
    by_cases h : a = b
    · subst h; simp
    · rw [beq_eq_false_iff_ne.2 h, beq_eq_false_iff_ne.2 (by omega)]
  have e1 : ∀ a b : Nat, ((a : Int) != (b : Int)) = (a != b) := fun a b => by unfold bne; rw [e0]
  cases o1 with
  | none =>
    cases o2 with
    | none => exact pbeside_raw _ p q 0 0 0 0 0 0 false false w hsz (Lib.hid V1) (Lib.hid V2)
    | some b => exact pbeside_raw _ p q 0 0 0 b.g b.k b.i false true w hsz (Lib.hid V1) (Lib.hid V2)
  | some a =>
    cases o2 with
    | none => exact pbeside_raw _ p q a.g a.k a.i 0 0 0 true false w hsz (Lib.hid V1) (Lib.hid V2)
    | some b =>
      have := pbeside_raw _ p q a.g a.k a.i b.g b.k b.i true true w hsz (Lib.hid V1) (Lib.hid V2)
      rw [e0, e1] at this
      simpa using this
end Go.Proofs.YtjolhoilcibdfaaGreat.PlanW
/- The contract of package bound's Free: it answers what the document's own does. -/
namespace Go.Proofs.YtjolhoilcibdfaaGreat.BdF
open Go.ChangeShapes Go.WideShapes Go.ChangeAt Go.RowKit
open Tab Gath OnS RefC Clear
open May (St phases_in infoP infoT row_new)
set_option linter.unusedVariables false
set_option linter.unusedSimpArgs false
open ServeS PassS FreeS PlaceM
open RefS (info3)
set_option maxRecDepth 100000 in
set_option maxHeartbeats 8000000 in
theorem pfree_raw (T : Tab) (h : Hd) (p : Int) (g1 k1 i1 : Int) (ok on : Bool) (w : World) (ht : IsTab w h T) (sm : Few T)
    (WC : Hid (∀ W, Below w.heap.size w W → Calls Tryz.prog 63 #[.agg (T.cells h).toArray, .int .i64 p] W fun e w' => e = .returned (.tuple #[I g1, I k1, I i1, .bool ok]) ∧ Below W.heap.size W w'))
    (OC : Hid (∀ W, Below w.heap.size w W → Calls Tryz.prog 57 #[.agg (T.cells h).toArray, .int .i64 p] W fun e w' => e = .returned (.bool on) ∧ Below W.heap.size W w')) :
    Calls Tryz.prog 29 #[.agg (T.cells h).toArray, .int .i64 p] w fun e w' => e = .returned (.int .i64 (if ok = true ∧ on = true then sums (passS T g1 :: upL T T.groups.length) else 0)) ∧ Below w.heap.size w w' := by
  have C := Lib.hid (cells_ok ht)
  have hsz := C.out.size
  have IA : Hid ((Tryz.prog.info? 32).map (·.size) = some (T.cells h).length) := Lib.hid (by rw [List.size_toArray] at hsz; rw [hsz]; exact infoT)
  have PC : Hid (∀ g W, Below w.heap.size w W → Calls Tryz.prog 27 #[.agg (T.cells h).toArray, .int .i64 g] W fun e w' => e = .returned (.int .i64 (passS T g)) ∧ Below W.heap.size W w') := Lib.hid (fun g W hb => BdP.ppass_any T h g W (ht.below hb) sm)
  have KG := sm.groups
  have S0 := Lib.hid (St.box (cs := (T.cells h).toArray) ht)
  obtain ⟨i0, hi, hz0, hz1, hz2⟩ := info_parts info3
  generalize hres : (if ok = true ∧ on = true then sums (passS T g1 :: upL T T.groups.length) else 0) = res
  have RS := Lib.hid hres
  clear hres ht sm
  go_enter Tryz.func29, Tryz.ntmps29
  go_upto_region 1 with fail
  generalize w.alloc (.cells (T.cells h).toArray 32) = w1 at S0 ⊢
  have q104 := C.out.g
  generalize hc : T.cells h = c at *
  clear hsz hc
  generalize hn : T.groups.length = n at *
  have HN := Lib.hid hn
  clear hn
  obtain ⟨⟨ga, gcap⟩, sd, sr, sb⟩ := h
  have Q104 : Hid (∀ W, Below w1.heap.size w1 W → W.cell? ⟨w.heap.size, 104, none⟩ = some (.slice ga n gcap)) := Lib.hid (fun W hb => (S0.out.step hb).cell q104)
  have LT : Hid (∀ W, Below w1.heap.size w1 W → Lies W ⟨w.heap.size, 0, none⟩ c) := Lib.hid (fun W hb => by have := Row.lies_of_block (S0.out.step hb).blk; simpa using this)
  have BB : Hid (∀ W, Below w1.heap.size w1 W → Below w.heap.size w W) := Lib.hid (fun W hb => S0.out.bel.trans (hb.mono S0.out.bel.size))
  clear q104
  go_wp2_with (refine Row.wpList_load_g 32 _ rfl (by first | rfl | go_simp) ⟨w.heap.size, 0, none⟩ rfl c _ (LT.out _ (Below.refl _ _)) Tryz.underlying32 rfl IA.out ?_)
  refine (WC.out _ (BB.out _ (Below.refl _ _))).mono ?_
  rintro e u2 ⟨rfl, hb⟩
  have B2 := Lib.hid hb
  clear hb WC
  cases ok with
  | false =>
    have HF : Hid (0 = res) := Lib.hid (by rw [← RS.out]; simp)
    have HB := Lib.hid (BB.out _ B2.out)
    go_wp2
    go_ret
    exact ⟨RefC.ret_int HF.out, HB.out⟩
  | true =>
  go_wp2_with (refine Row.wpList_load_g 32 _ rfl (by first | rfl | go_simp) ⟨w.heap.size, 0, none⟩ rfl c _ (LT.out _ B2.out) Tryz.underlying32 rfl IA.out ?_)
  refine (OC.out _ (BB.out _ B2.out)).mono ?_
  rintro e u3 ⟨rfl, hb⟩
  have B3 := Lib.hid (B2.out.trans (hb.mono B2.out.size))
  clear hb B2 OC
  cases on with
  | false =>
    have HF : Hid (0 = res) := Lib.hid (by rw [← RS.out]; simp)
    have HB := Lib.hid (BB.out _ B3.out)
    go_wp2
    go_ret
    exact ⟨RefC.ret_int HF.out, HB.out⟩
  | true =>
  have HR0 : Hid (sums (passS T g1 :: upL T n) = res) := Lib.hid (by rw [← RS.out]; simp)
  clear RS
  go_wp2_with (refine Row.wpList_load_g 32 _ rfl (by first | rfl | go_simp) ⟨w.heap.size, 0, none⟩ rfl c _ (LT.out _ B3.out) Tryz.underlying32 rfl IA.out ?_)
  refine (PC.out g1 _ (BB.out _ B3.out)).mono ?_
  rintro e u4 ⟨rfl, hb⟩
  have B4 := Lib.hid (B3.out.trans (hb.mono B3.out.size))
  clear hb B3
  generalize hp1 : passS T g1 = x1 at HR0 ⊢
  clear hp1
  have q104 := Q104.out _ B4.out
  have hb5 : Below u4.heap.size u4 (u4.alloc (.cells #[.int .i64 x1] 3)) := (Below.refl _ _).alloc (Nat.le_refl _) _
  have B5 := Lib.hid (B4.out.trans (hb5.mono B4.out.size))
  have q104 := Q104.out _ B5.out
  go_wp2_with fail
  have ho := Owns.mono (own_one u4 x1) B4.out.size
  have O5 : Hid (OwnsI w1.heap.size (u4.alloc (.cells #[.int .i64 x1] 3)) (.slice (some ⟨u4.heap.size, 0, none⟩) 1 1) [x1]) := Lib.hid ho
  clear hb5 ho B4 q104
  generalize u4.alloc (.cells #[.int .i64 x1] 3) = u5 at O5 B5 ⊢
  generalize u4.heap.size = b5 at O5 ⊢
  have US : Hid (∀ q, upL T (q + 1) = upL T q ++ [passS T q]) := Lib.hid (up_succ T)
  have UL : Hid (∀ q, (upL T q).length = q) := Lib.hid (up_len T)
  have U0 : Hid (upL T 0 = []) := Lib.hid rfl
  generalize upL T = ul at HR0 US UL U0
  go_loopw [9, 34] (fun v i wr => ∃ q : Nat, q ≤ n ∧ i = .int .i64 q ∧ OwnsI w1.heap.size wr v (x1 :: ul q) ∧ Below w1.heap.size w1 wr) (fun _ i _ => n - (intOf i).toNat)
  case atStart => exact ⟨0, by omega, rfl, by rw [U0.out]; exact O5.out, B5.out⟩
  case round =>
    obtain ⟨q, hq, rfl, hown, hbel⟩ := hrel
    have HO := Lib.hid hown
    have HB := Lib.hid hbel
    clear hown hbel
    by_cases hlt : q < n
    · have hlen : (x1 :: ul q).length ≤ 1001 := by rw [List.length_cons, UL.out]; omega
      have HS := Lib.hid (US.out q)
      generalize hP1 : x1 :: ul q = P1 at HO hlen
      have HP1 := Lib.hid hP1
      clear hP1
      go_wp2_with (refine Row.wpList_load_g 32 _ rfl (by first | rfl | go_simp) ⟨w.heap.size, 0, none⟩ rfl c _ (LT.out _ HB.out) Tryz.underlying32 rfl IA.out ?_)
      refine (PC.out q _ (BB.out _ HB.out)).mono ?_
      rintro e w5 ⟨rfl, hb⟩
      have HB5 := Lib.hid (HB.out.trans (hb.mono HB.out.size))
      have HO5 := Lib.hid (HO.out.below hb)
      have HS2 : Hid (x1 :: ul (q + 1) = P1 ++ [passS T q]) := Lib.hid (by rw [HS.out, ← HP1.out]; rfl)
      clear hb HB HO
      generalize passS T q = x2 at HS2 ⊢
      have hown2 : w5.ownsRow w1.heap.size 3 1 u9 P1.length (P1.flatMap (fun n => [I n])) := HO5.out
      have hsz5 := HB5.out.size
      go_wp2_with (at_builtin; refine wpList_append_own _ rfl _ _ 22 rfl w1.heap.size 3 i0 (.int .i64 0) 1 8 Tryz.underlying22 hi hz0 hz1 hz2 rfl (by decide) _ _ _ rfl (hown2.alloc _) ⟨w5.heap.size, 0, none⟩ 1 1 [.int .i64 x2] rfl rfl ?c1 ?c2 ?c3 ?c4 ?c5 ?_)
      case c1 =>
        intro m q hm
        match m, hm with
        | 0, hm => simp at hm; subst hm; simp [Addr.add]
      case c2 => intro q hq; simp at hq; subst hq; rfl
      case c3 => unfold maxLen; omega
      case c4 => omega
      case c5 => simp; omega
      intro v' w6 hown' hgrow hnil'
      have HB6 : Hid (Below w1.heap.size w1 w6) := Lib.hid ((HB5.out.alloc hsz5 _).grown hgrow (by simp; omega) fun m hm => (show OwnsI w1.heap.size w5 u9 P1 from hown2).blk m hm)
      have HO6 : Hid (OwnsI w1.heap.size w6 v' (P1 ++ [x2])) := Lib.hid (Owns.snoc hown')
      clear hown' hgrow hown2 hnil'
      go_wp2
      go_roundw
      case rel => exact ⟨q + 1, by omega, by go_num, by rw [HS2.out]; exact HO6.out, HB6.out⟩
      case measure => simp [intOf]; omega
    · have HE : Hid (q = n) := Lib.hid (by omega)
      obtain ⟨⟨sa', sc⟩, hs, hrow⟩ := HO.out.row (enc := fun n => [I n]) (fun _ => rfl)
      rw [HE.out] at hs hrow
      have HR2 := Lib.hid hrow
      have HF := Lib.hid (BB.out _ HB.out)
      clear hrow HE
      subst hs
      generalize hL : x1 :: ul n = P2 at HR0 HR2 ⊢
      clear hL
      show Code.wp _ _ _ _ _
      rw [show (Sl.val ⟨sa', sc⟩ P2.length) = .slice sa' P2.length sc from rfl]
      go_wp2_with fail
      refine (BdS.sum_row sa' sc P2 P2.length rfl _ HR2.out).mono ?_
      rintro e w' ⟨rfl, rfl⟩
      rw [HR0.out]
      go_wp2
      go_ret
      exact ⟨rfl, HF.out⟩
theorem pfree_any (T : Tab) (h : Hd) (p : Int) (w : World) (ht : IsTab w h T) (sm : Few T) :
    Calls Tryz.prog 29 #[.agg (T.cells h).toArray, .int .i64 p] w fun e w' => e = .returned (.int .i64 (freeS T p)) ∧ Below w.heap.size w w' := by
  have h2 := fun W (hb : Below w.heap.size w W) => PlanW.pwhere_any T h p W (ht.below hb)
  have ho := fun W (hb : Below w.heap.size w W) => BdA.isOn_any T h p W (ht.below hb)
  have hf : freeS T p = match where_ T p with
    | some x => if SetM.has (onS T : Nat) p then freeR T x else 0
    | none => 0 := rfl
  rw [hf]
  cases hw : where_ T p with
  | none =>
    rw [hw] at h2
    have := pfree_raw T h p _ _ _ false _ w ht sm (Lib.hid h2) (Lib.hid ho)
    simpa using this
  | some x =>
    rw [hw] at h2
    have := pfree_raw T h p x.g x.k x.i true _ w ht sm (Lib.hid h2) (Lib.hid ho)
    simpa [freeR] using this
end Go.Proofs.YtjolhoilcibdfaaGreat.BdF
/- What is walked outside a round holds inside one: regions whose walk is known by the plain laws (wpList, Pw) serve in the body of a range over a function. No program in it. -/
namespace Go.Proofs.YtjolhoilcibdfaaGreat.Up
open Go Go.RowKit
def noDefer (l : List Oper) : Bool := l.all fun o => match o.op with | .defer _ => false | _ => true
theorem not_defer {l : List Oper} (h : noDefer l = true) {o : Oper} (ho : o ∈ l) : ∀ c, o.op ≠ .defer c := by
  intro c e
  have := List.all_eq_true.1 h o ho
  rw [e] at this
  cases this
section
variable {P : Program} {l n : Nat} {Q : Exit → Act → World → Prop}
theorem op_up {o : Oper} {a : Act} {w : World} {K K' : Act → World → Prop} (hn : ∀ a w, K a w → K' a w) (hd : ∀ c, o.op ≠ .defer c) (h : o.wp P a w K Q) : o.wpIn (Fence.wide.inRound l) n P a w K' Q := by
  refine ⟨fun _ _ => trivial, ?_⟩
  rw [show (Fence.wide.inRound l).round = some l from rfl, Oper.semAt_some l _ _ hd]
  unfold Oper.wp at h
  generalize (execOp a.eval o).run P w = r at h
  cases r with
  | ok nx w' =>
    cases nx with
    | value v => exact hn _ _ h
    | skip => exact hn _ _ h
    | defer d => exact hn _ _ h
    | enter f args =>
      refine ⟨fun h => (by cases h), CallsIn.inRound l (callsIn_wide.2 (Calls.mono h ?_))⟩
      intro e w'' he
      cases e with
      | returned v => exact hn _ _ he
      | panicked c => exact he
      | outgrown => exact he
    | row row args => exact ⟨fun h => (by cases h), fun c cs _ => let ⟨v, w', r, s⟩ := h c cs; ⟨v, w', hn _ _ r, stepsIn_wide.2 s⟩⟩
    | _ => exact h.elim
  | halt e w' =>
    cases e with
    | panic v => exact h
    | _ => exact h.elim
theorem list_up (hQ : ¬ LetsOut Q) {ops : Array Oper} : ∀ (m : List Oper) (a : Act) (w : World), noDefer m = true → wpList P ops Q m a w → wpListIn (Fence.wide.inRound l) n P ops Q m a w
  | [], a, w, _, h => h
  | o :: rest, a, w, hd, h => by
    have hr : noDefer rest = true := by unfold noDefer at hd ⊢; rw [List.all_cons, Bool.and_eq_true] at hd; exact hd.2
    unfold wpList at h
    unfold wpListIn
    split at h
    · rename_i hw
      rw [if_pos hw]
      rcases h with h | h
      · exact op_up (fun a w h => list_up hQ rest a w hr h) (not_defer hd (List.mem_cons_self ..)) h
      · exact absurd h.2 hQ
    · rename_i hw
      rw [if_neg hw]
      exact ⟨fun _ _ => trivial, list_up hQ rest _ _ hr h⟩
theorem any_up (hQ : ¬ LetsOut Q) {md : Region.Mode} {ops : Array Oper} (hd : noDefer ops.toList = true) : ∀ (fuel : Nat) (listed : Array Bool) (a : Act) (w : World), wpAny P md ops Q fuel listed a w → wpAnyIn (Fence.wide.inRound l) n P md ops Q fuel listed a w
  | 0, _, _, _, h => h
  | fuel + 1, listed, a, w, h => by
    refine ⟨h.1, fun i hi => ?_⟩
    have h1 := h.2 i hi
    unfold wpOp at h1
    unfold wpOpIn
    cases ho : ops[i]? with
    | none => rw [ho] at h1; exact any_up hQ hd fuel _ _ _ h1
    | some o =>
      rw [ho] at h1
      have hm : o ∈ ops.toList := List.mem_of_getElem? (by rw [Array.getElem?_toList]; exact ho)
      dsimp only at h1 ⊢
      split at h1
      · rename_i hw
        rw [if_pos hw]
        rcases h1 with h1 | h1
        · exact op_up (fun a w h => any_up hQ hd fuel _ a w h) (not_defer hd hm) h1
        · exact absurd h1.2 hQ
      · rename_i hw
        rw [if_neg hw]
        exact ⟨fun _ _ => trivial, any_up hQ hd fuel _ _ _ h1⟩
/-- A region that does not draw, in a round, by the plain walk. -/
theorem region_list {id : Nat} {m : List Oper} {a : Act} {w : World} (hQ : ¬ LetsOut Q) (hd : noDefer m = true) (h : wpList P m.toArray Q m a w) : (Code.region id m.toArray false).wpIn (Fence.wide.inRound l) n P Q a w :=
  wpIn_region_lit (list_up hQ m a w hd h)
/-- A region that draws, in a round, by phases. -/
theorem region_ph {id : Nat} {a : Act} {w : World} {m : List Oper} (D : Nat → World → Prop) (cs : List Nat) (hQ : ¬ LetsOut Q) (hd : noDefer m = true) (hm : P.follows .mixedOrders = true) (hB : Ph.okB .any m.toArray cs = true) (hD : D 0 w.drew)
    (h : Pw.W P m.toArray D cs (fun a' => ∀ w', D cs.length w' → Q .normal a' w') 0 m a) : (Code.region id m.toArray true).wpIn (Fence.wide.inRound l) n P Q a w := by
  have h := h.out
  simp only [Ph.okB, Bool.and_eq_true] at hB
  obtain ⟨⟨hs, hc⟩, hlex⟩ := hB
  have h1 := Ph.wpAnyP_lex (md := .any) hs hc m 0 (Array.replicate m.toArray.size false) a (by simp) (by simpa using hlex) h
  refine wpIn_region_any hm (any_up hQ (by simpa using hd) _ _ _ _ ?_)
  refine Ph.wpAny_of_ph (D := D) (cs := cs) (Q := fun L a => (cs.all fun c => L.getD c false) = true ∧ ∀ w', D cs.length w' → Q .normal a w') (fun L a w ⟨p, hp, hat, hd⟩ ⟨hall, hq⟩ => ?_) _ _ _ _ (by simp) ⟨0, Nat.zero_le _, fun q c _ => by rw [getD_replicate_false]; simp, hD⟩ (by simpa using h1)
  have hpe : p = cs.length := by
    rcases Nat.lt_or_ge p cs.length with h2 | h2
    · have h3 := hat p _ (List.getElem?_eq_getElem h2)
      have h4 := List.all_eq_true.1 hall _ (List.getElem_mem h2)
      rw [h4] at h3
      have := of_decide_eq_true h3.symm
      omega
    · omega
  subst hpe
  exact hq w hd
end
end Go.Proofs.YtjolhoilcibdfaaGreat.Up
/- The contract of the iterator set.Each, for a body that may know that what it is handed is in the set. At all integers. -/
namespace Go.Proofs.YtjolhoilcibdfaaGreat.Each
open Go.RowKit Go.Shelf
open Go.Proofs.YtjolhoilcibdfaaGreat
set_option linter.unusedVariables false

attribute [local go_sem] Oper.semAt_some

/-- The block B lies as it lay. -/
def Kept (B : Nat) (W W' : World) : Prop := W'.heap[B]? = W.heap[B]?
theorem Kept.refl (B : Nat) (W : World) : Kept B W W := rfl
theorem Kept.trans {B : Nat} {A C D : World} (h : Kept B A C) (k : Kept B C D) : Kept B A D := Eq.trans k h
theorem Kept.cell {B o : Nat} {A C : World} (h : Kept B A C) : C.cell? ⟨B, o, none⟩ = A.cell? ⟨B, o, none⟩ := by
  simp only [World.cell?, show C.heap[B]? = A.heap[B]? from h]
theorem Kept.below {n₀ B : Nat} {A C : World} (h : Below n₀ A C) (hB : B < n₀) : Kept B A C := h.block B hB
theorem Kept.setCell {B b o : Nat} (W : World) (v : Value) (h : B ≠ b) : Kept B W (W.setCell ⟨b, o, none⟩ v) := Below.heap_setCell _ _ _ B h
theorem kept_b {B : Nat} {w : World} (hB : B < w.heap.size) (W : World) (l : Nat) (o o' : Obj) (hl : w.heap.size ≤ l) (_ : W.heap[l]? = some o) (_ : o.isCells = false) (_ : o.isWalk = false) : Kept B W (W.putObj l o') :=
  World.putObj_heap_other (by omega)

set_option maxRecDepth 100000 in
set_option maxHeartbeats 2000000 in
/-- The iterator itself: for every loop body. -/
theorem each1_in (n : Nat) (hn : 1 ≤ n) (l Bs : Nat) (s : Int) (J Jx : List Int → World → Prop)
    (hY : ∀ pre (x : Int) W, J pre W → pre ++ [x] <+: SetM.list s → YieldAt Fence.wide (n - 1) Tryz.prog l #[.int .i64 x] W fun e W' =>
      (e = .returned (.bool true) ∧ J (pre ++ [x]) W' ∧ Kept Bs W W') ∨ (e = .returned (.bool false) ∧ Jx (pre ++ [x]) W'))
    (W : World) (hc : W.cell? ⟨Bs, 0, none⟩ = some (.int .i64 s)) (h0 : J [] W) :
    CallsIn Fence.wide n Tryz.prog 127 #[.func (.yield l) #[] #[], .pointer (some ⟨Bs, 0, none⟩)] W fun e W' => (∃ v, e = .returned v) ∧
      ((∃ ys, ys = SetM.list s ∧ J ys W') ∨ (∃ pre, pre <+: SetM.list s ∧ Jx pre W')) := by
  refine callsIn_of_wp Tryz.func127 rfl trivial ?_ rfl
  simp only [Tryz.ntmps127, List.size_toArray, List.length_cons, List.length_nil, Nat.reduceAdd, Nat.reduceSub, Array.replicate_succ, Array.replicate_zero, List.push_toArray, List.append_toArray, List.nil_append, List.cons_append]
  gi_wp2
  gi_loopw [4] (fun i wr => ∃ k : Nat, k ≤ 8 ∧ i = .int .i64 k ∧ J (SetM.upto s k) wr ∧ Kept Bs W wr)
    (fun i _ => 8 - (intOf i).toNat)
  case atStart => exact ⟨0, Nat.zero_le _, rfl, h0, Kept.refl _ _⟩
  case round =>
    obtain ⟨k, hk, rfl, hJs, hnx⟩ := hrel
    have hcx := (hnx.cell (o := 0)).trans hc
    by_cases hlt : k < 8
    · by_cases hh : SetM.has s k = true
      · obtain ⟨fn, tmps, assign, body, hy, hR⟩ := hY _ (k : Int) wr hJs (by rw [← SetM.upto_hit s k hh]; exact SetM.upto_list s (k + 1) (by omega))
        have Hs := Lib.hid (SetM.upto_hit s k hh)
        have Hp := Lib.hid (SetM.upto_list s (k + 1) (by omega))
        gi_wp2_with (refine ⟨trivial, ?_⟩; gi_at_call 95; refine (callsIn_wide.2 (SetP.has_any _ _ _)).mono ?_; rintro e w' ⟨rfl, rfl⟩; rw [hh])
        refine hR.mono ?_
        rintro e W3 (⟨rfl, hJ3, hk3⟩ | ⟨rfl, hJx3⟩)
        · gi_wp2
          go_roundw
          case rel => exact ⟨k + 1, by omega, by go_num, by rw [Hs.out]; exact hJ3, hnx.trans hk3⟩
          case measure => simp [intOf]; omega
        · gi_wp2
          refine bodyPost_ret (results_none rfl _ _ _) rfl ?_
          exact ⟨⟨_, rfl⟩, .inr ⟨_, by rw [← Hs.out]; exact Hp.out, hJx3⟩⟩
      · have hh' : SetM.has s k = false := by simpa using hh
        have Hs := Lib.hid (SetM.upto_miss s k hh')
        clear hh
        gi_wp2_with (refine ⟨trivial, ?_⟩; gi_at_call 95; refine (callsIn_wide.2 (SetP.has_any _ _ _)).mono ?_; rintro e w' ⟨rfl, rfl⟩; rw [hh'])
        refine ⟨fun _ h => (by cases h), ?_⟩
        gi_wp2
        go_roundw
        case rel => exact ⟨k + 1, by omega, by go_num, by rw [Hs.out]; exact hJs, hnx⟩
        case measure => simp [intOf]; omega
    · obtain rfl : k = 8 := by omega
      gi_wp2
      go_end0
      exact ⟨⟨_, rfl⟩, .inl ⟨_, rfl, hJs⟩⟩

set_option maxHeartbeats 1000000 in
/-- set.Each(s): the set is boxed; the function value captures the box. -/
theorem each_in (n : Nat) (s : Int) (w : World) :
    CallsIn Fence.wide n Tryz.prog 104 #[.int .i64 s] w fun e w' => e = .returned (.func (.func 127) #[] #[.pointer (some ⟨w.heap.size, 0, none⟩)]) ∧ w' = w.alloc (.cells #[.int .i64 s] 3) := by
  refine callsIn_of_wp Tryz.func104 rfl trivial ?_ rfl
  simp only [Tryz.ntmps104, List.size_toArray, List.length_cons, List.length_nil, Nat.reduceAdd, Nat.reduceSub, Array.replicate_succ, Array.replicate_zero, List.push_toArray, List.append_toArray, List.nil_append, List.cons_append]
  gi_wp2
  go_ret
  exact ⟨rfl, rfl⟩

/-- What the body is handed: a member of the set. -/
abbrev Mem (s : Int) := { x : Int // x ∈ SetM.list s }
/-- The value that set.Each hands back: the phases of s, in order; or the first of them, where a round has said 'no more'. -/
theorem each_mem (n : Nat) (hn : 1 ≤ n) (Bs : Nat) (s : Int) (w : World) (hBs : Bs < w.heap.size) (hc : w.cell? ⟨Bs, 0, none⟩ = some (.int .i64 s)) :
    SeqStopsK Fence.wide n Tryz.prog 127 #[.pointer (some ⟨Bs, 0, none⟩)] (fun x : Mem s => #[Value.int .i64 x.1]) (Kept Bs) (fun ys => ys.map Subtype.val = SetM.list s) (fun pre => pre.map Subtype.val <+: SetM.list s) (SetM.list s).length w := fun l J Jx W hW _ _ hY h0 => by
  refine (each1_in n hn l Bs s (fun pre W => ∃ m : List (Mem s), m.map Subtype.val = pre ∧ J m W) (fun pre W => ∃ m : List (Mem s), m.map Subtype.val = pre ∧ Jx m W) ?_ W ((hW.cell (p := ⟨Bs, 0, none⟩) hBs).trans hc) ⟨[], rfl, h0⟩).mono ?_
  · rintro pre x W1 ⟨m, rfl, hJ⟩ hp
    have hx : x ∈ SetM.list s := hp.subset (by simp)
    have hl : m.length < (SetM.list s).length := by have := hp.length_le; simp at this; omega
    obtain ⟨fn, tmps, assign, body, hy, hR⟩ := hY m ⟨x, hx⟩ W1 hJ hl
    refine ⟨fn, tmps, assign, body, hy, hR.mono ?_⟩
    rintro e W' (⟨h1, h2, h3⟩ | ⟨h1, h2⟩)
    · exact .inl ⟨h1, ⟨_, by simp, h2⟩, h3⟩
    · exact .inr ⟨h1, ⟨_, by simp, h2⟩⟩
  · rintro e W' ⟨hv, h⟩
    refine ⟨hv, ?_⟩
    rcases h with ⟨ys, rfl, m, hm, hJ⟩ | ⟨pre, hp, m, rfl, hJ⟩
    · exact .inl ⟨m, hm, hJ⟩
    · exact .inr ⟨m, hp, hJ⟩
end Go.Proofs.YtjolhoilcibdfaaGreat.Each
