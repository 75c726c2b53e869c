/- 29 texts in one file, in build order. -/
import Derived.Test.YtkccepdifgldeaaDoorRows
import Derived.Test.YtkccepdifgldeaaDoorPart01
import Derived.OwnWalk
import Derived.WalkKit
import Derived.ProofKit
import Derived.IntWalk
import Derived.Lib.Hide
import Derived.LoopTactic
import Derived.Below
import Derived.BigQuiet
import Derived.Deep.QuietTactic
import Derived.Deep.Cut
import Derived.Laws.CopyOwn
import Derived.LaidMore
import Derived.LaidHandle
import Derived.Lib.LaidTab
import Derived.Stop.LaidErr
import Derived.OpenShut
import Derived.SevenTiedAt
import Derived.RangeFuncCalls
import Derived.OrdersIn
import Derived.TacticsIn
import Derived.RangeFuncNested
import Derived.RangeFuncBound
import Derived.RangeFuncLeaves
import Derived.RangeFuncBox
import Derived.Shelf.Abstract
import Derived.Shelf.RegionOpen
import Derived.OwnWalkIn
import Derived.TacticsInMore
import Derived.LoopNIn
import Derived.LoopIn
import Derived.Maps.AppendAt
set_option linter.unusedVariables false
set_option linter.unusedSimpArgs false
set_option linter.unusedSectionVars false
set_option maxHeartbeats 8000000
set_option maxRecDepth 100000
namespace Go.Proofs.YtkccepdifgldeaaDoor
namespace RefS
open Go.ChangeShapes Go.WideShapes Go.ChangeAt Go.RowKit
open Go.Proofs.YtkccepdifgldeaaDoor
theorem ret_int {k : IntKind} {a b : Int} (h : a = b) : Ending.returned (.int k a) = .returned (.int k b) := by rw [h]
theorem ret_bool {a b : Bool} (h : a = b) : Ending.returned (.bool a) = .returned (.bool b) := by rw [h]
theorem eight {p : Int} (h : 0 ≤ p) (h' : p < 8) : p = 0 ∨ p = 1 ∨ p = 2 ∨ p = 3 ∨ p = 4 ∨ p = 5 ∨ p = 6 ∨ p = 7 := by omega
theorem shr_has (s : Int) (k : Nat) (h : k < 8) : (bits .and .i64 (s / 2 ^ k) 1 == 1) = SetM.has s k := by
  rw [SetM.has_shr s k h]
  cases SetM.has s k <;> rfl
theorem rhas_any (s p : Int) (w : World) : Calls Tryd.prog 19 #[.int .i64 s, .int .i64 p] w fun e w' => e = .returned (.bool (SetM.has s p)) ∧ w = w' := by
  by_cases h1 : p < 0
  · have HB := Lib.hid (SetM.has_neg s p h1)
    go_enter Tryd.func19, Tryd.ntmps19
    go_wp2
    go_ret
    exact ⟨ret_bool HB.out.symm, rfl⟩
  by_cases h2 : 8 ≤ p
  · have HB := Lib.hid (SetM.has_big s p h2)
    go_enter Tryd.func19, Tryd.ntmps19
    go_wp2
    go_ret
    exact ⟨ret_bool HB.out.symm, rfl⟩
  rcases eight (p := p) (by omega) (by omega) with rfl | rfl | rfl | rfl | rfl | rfl | rfl | rfl
  · have HB := Lib.hid (show (bits .and .i64 s 1 == 1) = SetM.has s 0 from by have := shr_has s 0 (by decide); simpa using this)
    clear h1 h2
    go_enter Tryd.func19, Tryd.ntmps19
    go_wp2
    go_ret
    exact ⟨ret_bool HB.out, rfl⟩
  · have HB := Lib.hid (show (bits .and .i64 (s / 2) 1 == 1) = SetM.has s 1 from shr_has s 1 (by decide))
    clear h1 h2
    go_enter Tryd.func19, Tryd.ntmps19
    go_wp2
    go_ret
    exact ⟨ret_bool HB.out, rfl⟩
  · have HB := Lib.hid (show (bits .and .i64 (s / 4) 1 == 1) = SetM.has s 2 from shr_has s 2 (by decide))
    clear h1 h2
    go_enter Tryd.func19, Tryd.ntmps19
    go_wp2
    go_ret
    exact ⟨ret_bool HB.out, rfl⟩
  · have HB := Lib.hid (show (bits .and .i64 (s / 8) 1 == 1) = SetM.has s 3 from shr_has s 3 (by decide))
    clear h1 h2
    go_enter Tryd.func19, Tryd.ntmps19
    go_wp2
    go_ret
    exact ⟨ret_bool HB.out, rfl⟩
  · have HB := Lib.hid (show (bits .and .i64 (s / 16) 1 == 1) = SetM.has s 4 from shr_has s 4 (by decide))
    clear h1 h2
    go_enter Tryd.func19, Tryd.ntmps19
    go_wp2
    go_ret
    exact ⟨ret_bool HB.out, rfl⟩
  · have HB := Lib.hid (show (bits .and .i64 (s / 32) 1 == 1) = SetM.has s 5 from shr_has s 5 (by decide))
    clear h1 h2
    go_enter Tryd.func19, Tryd.ntmps19
    go_wp2
    go_ret
    exact ⟨ret_bool HB.out, rfl⟩
  · have HB := Lib.hid (show (bits .and .i64 (s / 64) 1 == 1) = SetM.has s 6 from shr_has s 6 (by decide))
    clear h1 h2
    go_enter Tryd.func19, Tryd.ntmps19
    go_wp2
    go_ret
    exact ⟨ret_bool HB.out, rfl⟩
  · have HB := Lib.hid (show (bits .and .i64 (s / 128) 1 == 1) = SetM.has s 7 from shr_has s 7 (by decide))
    clear h1 h2
    go_enter Tryd.func19, Tryd.ntmps19
    go_wp2
    go_ret
    exact ⟨ret_bool HB.out, rfl⟩
theorem info3 : (Tryd.prog.info? 3).map (fun i => (i.zero, i.size, i.bytes)) = some (some (.int .i64 0), 1, 8) := by kernel_rfl
/-- A slice of its own memory (laid since B) that holds the integers l; nil just where there are none. -/
def Owns (B : Nat) (W : World) (v : Value) (l : List Int) : Prop := W.ownsRow B 3 1 v l.length (l.map (Value.int .i64)) ∧ (v = .slice none 0 0 ↔ l = [])
/-- What a function hands back that gathers integers. -/
def Gave (w : World) (l : List Int) (e : Ending) (W' : World) : Prop := ∃ v, e = .returned v ∧ Owns w.heap.size W' v l ∧ Below w.heap.size w W'
theorem row_blk {W : World} {n₀ e size k : Nat} {v : Value} {xs : List Value} (h : W.ownsRow n₀ e size v k xs) (j : Nat) (hj : v.ownBlock = some j) : n₀ ≤ j := by
  rcases h.2 with ⟨rfl, _⟩ | ⟨g, cap, cur, rfl, hb, _, _⟩
  · simp [Value.ownBlock] at hj
  · obtain rfl : g = j := by simpa [Value.ownBlock] using hj
    exact hb
theorem map_snoc (pre : List Int) (x : Int) : pre.map (Value.int .i64) ++ [.int .i64 x] = (pre ++ [x]).map (Value.int .i64) := by simp
/-- A slice's address under which the integers l lie. -/
def Row (w : World) (a : Option Addr) (l : List Int) : Prop := l.length ≤ maxLen ∧ (l = [] ∨ ∃ x, a = some x ∧ ∀ i, i < l.length → w.cell? (x.add i) = some (.int .i64 (l.getD i 0)))
theorem Row.cells {w : World} {a : Option Addr} {l : List Int} (h : Row w a l) {k : Nat} (hk : k < l.length) : ∃ x, a = some x ∧ ∀ i, i < l.length → w.cell? (x.add i) = some (.int .i64 (l.getD i 0)) := by
  rcases h.2 with rfl | h
  · simp at hk
  · exact h
theorem Row.below {w w' : World} {a : Option Addr} {l : List Int} (h : Row w a l) (hb : Below w.heap.size w w') : Row w' a l := by
  refine ⟨h.1, ?_⟩
  rcases h.2 with h | ⟨x, hx, hc⟩
  · exact .inl h
  · exact .inr ⟨x, hx, fun i hi => (hb.cell (World.block_lt_of_cell? w _ (hc i hi))).trans (hc i hi)⟩
/-- What a function has gathered reads as a row. -/
theorem row_of {B : Nat} {w : World} {v : Value} {l : List Int} (h : Owns B w v l) : ∃ a cap, v = .slice a l.length cap ∧ Row w a l := by
  rcases h.1.2 with ⟨rfl, h0⟩ | ⟨g, cap, cur, rfl, h1, h2, h3, h4, h5, h6⟩
  · have : l = [] := h.2.1 rfl
    subst this
    exact ⟨none, 0, rfl, Nat.zero_le _, .inl rfl⟩
  · refine ⟨_, cap, rfl, by omega, .inr ⟨_, rfl, fun i hi => ?_⟩⟩
    exact h.1.cells (g := g) rfl i (.int .i64 (l.getD i 0)) (by rw [List.getElem?_map, List.getD_eq_getElem?_getD, List.getElem?_eq_getElem hi]; rfl)
theorem or_small (m b : Nat) (hm : m < 256) (hb : b < 256) : bits .or .i64 (m : Int) (b : Int) = ((m ||| b : Nat) : Int) :=
  (bits_nat .i64 8 (by decide) (fun n h0 h1 => by rw [IntKind.wrap_i64]; omega) m b hm hb).2
theorem ref_lt (l : List Int) (k : Nat) (h : k ≤ 8) : SetM.refOf l k < 256 := Nat.lt_of_lt_of_le (SetM.refOf_lt l k) (Nat.pow_le_pow_right (n := 2) (by decide) h : 2 ^ k ≤ 2 ^ 8)
theorem ref_or (l : List Int) (k : Nat) (h : k < 8) (hm : (k : Int) ∈ l) : bits .or .i64 (SetM.refOf l k : Nat) ((2 ^ k : Nat) : Int) = (SetM.refOf l (k + 1) : Nat) := by
  rw [or_small _ _ (ref_lt l k (by omega)) (show 2 ^ k < 2 ^ 8 from Nat.pow_lt_pow_right (by decide) h), SetM.refOf_hit l k hm]
theorem wrap_pow (k : Nat) (h : k < 8) : wrap64 ((2 : Int) ^ k) = ((2 ^ k : Nat) : Int) := by
  have h3 : k = 0 ∨ k = 1 ∨ k = 2 ∨ k = 3 ∨ k = 4 ∨ k = 5 ∨ k = 6 ∨ k = 7 := by omega
  rcases h3 with rfl | rfl | rfl | rfl | rfl | rfl | rfl | rfl <;> decide +kernel
theorem ref_or2 (l : List Int) (k : Nat) (h : k < 8) (hm : (k : Int) ∈ l) : bits .or .i64 (SetM.refOf l k : Nat) (wrap64 ((2 : Int) ^ k)) = (SetM.refOf l (k + 1) : Nat) := by
  rw [wrap_pow k h, ref_or l k h hm]
/-- The first place of a number that is there. -/
theorem first_at {l : List Int} {p : Int} (h : p ∈ l) : ∃ j, j < l.length ∧ l.getD j 0 = p ∧ ∀ i, i < j → l.getD i 0 ≠ p := by
  induction l with
  | nil => simp at h
  | cons y l ih =>
    by_cases e : y = p
    · exact ⟨0, by simp, by simpa using e, fun i hi => by omega⟩
    · obtain ⟨j, h1, h2, h3⟩ := ih (by simpa [Ne.symm e] using h)
      refine ⟨j + 1, by simp; omega, by simpa using h2, fun i hi => ?_⟩
      cases i with
      | zero => simpa using e
      | succ i => simpa using h3 i (by omega)
theorem rof_any (a : Option Addr) (cap : Nat) (l : List Int) (w : World) (h : Row w a l) :
    Calls Tryd.prog 42 #[.slice a l.length cap] w fun e w' => e = .returned (.int .i64 (SetM.of l : Nat)) ∧ w = w' := by
  have h1 := h.1
  unfold maxLen at h1
  have Hr := Lib.hid h
  clear h
  go_enter Tryd.func42, Tryd.ntmps42
  go_wp2
  go_loop [3, 4] (fun t p => ∃ k : Nat, k ≤ 8 ∧ p = .int .i64 k ∧ t = .int .i64 (SetM.refOf l k : Nat)) (fun _ p => 8 - (intOf p).toNat)
  case atStart => exact ⟨0, Nat.zero_le _, rfl, rfl⟩
  case round =>
    obtain ⟨k, hk, rfl, rfl⟩ := hrel
    by_cases hlt : k < 8
    · by_cases hm : (k : Int) ∈ l
      · have HS := Lib.hid (ref_or2 l k hlt hm)
        obtain ⟨j, hj, hjk, hjn⟩ := first_at hm
        have Hj := Lib.hid hjk
        have Hn := Lib.hid hjn
        clear hjk hjn hm
        go_wp2
        go_loop [3, 5] (fun t i => ∃ m : Nat, m ≤ j ∧ i = .int .i64 m ∧ t = .int .i64 (SetM.refOf l k : Nat)) (fun _ i => j - (intOf i).toNat)
        case atStart => exact ⟨0, Nat.zero_le _, rfl, rfl⟩
        case round =>
          obtain ⟨m, hm, rfl, rfl⟩ := hrel
          have hml : m < l.length := by omega
          obtain ⟨x, rfl, hc⟩ := Hr.out.cells hml
          have hcell := hc m hml
          clear hc
          by_cases hmj : m < j
          · have hne := Hn.out m hmj
            generalize l.getD m 0 = y at hne hcell
            go_wp2
            go_round
            case rel => exact ⟨m + 1, by omega, by go_num, rfl⟩
            case measure => simp [intOf]; omega
          · obtain rfl : m = j := by omega
            rw [Hj.out] at hcell
            go_wp2
            go_round
            case rel => exact ⟨k + 1, by omega, by go_num, by rw [HS.out]⟩
            case measure => simp [intOf]; omega
      · have HS := Lib.hid (SetM.refOf_miss l k hm)
        have Hm : Hid (∀ i, i < l.length → l.getD i 0 ≠ (k : Int)) := Lib.hid (fun i hi e => hm (by rw [← e, List.getD_eq_getElem?_getD, List.getElem?_eq_getElem hi]; exact List.getElem_mem hi))
        clear hm
        go_wp2
        go_loop [3, 5] (fun t i => ∃ m : Nat, m ≤ l.length ∧ i = .int .i64 m ∧ t = .int .i64 (SetM.refOf l k : Nat)) (fun _ i => l.length - (intOf i).toNat)
        case atStart => exact ⟨0, Nat.zero_le _, rfl, rfl⟩
        case round =>
          obtain ⟨m, hm, rfl, rfl⟩ := hrel
          by_cases hml : m < l.length
          · obtain ⟨x, rfl, hc⟩ := Hr.out.cells hml
            have hcell := hc m hml
            clear hc
            have hne := Hm.out m hml
            generalize l.getD m 0 = y at hne hcell
            go_wp2
            go_round
            case rel => exact ⟨m + 1, by omega, by go_num, rfl⟩
            case measure => simp [intOf]; omega
          · go_wp2
            go_round
            case rel => exact ⟨k + 1, by omega, by go_num, by rw [HS.out]⟩
            case measure => simp [intOf]; omega
    · have HS := Lib.hid (SetM.refOf_eq l)
      obtain rfl : k = 8 := by omega
      go_wp2
      go_ret
      exact ⟨ret_int (by rw [HS.out]), rfl⟩
theorem list_snoc {B : Nat} {l : List Int} {x : Int} {v' : Value} {w1 : World} (h : w1.ownsRow B 3 1 v' (l.length + 1) (l.map (Value.int .i64) ++ [.int .i64 x])) (hn : ¬ v' = .slice none 0 0) : Owns B w1 v' (l ++ [x]) := by
  refine ⟨?_, ?_⟩
  · rw [List.length_append, ← map_snoc]; exact h
  · simp [hn]
theorem rlist_any (s : Int) (w : World) : Calls Tryd.prog 26 #[.int .i64 s] w (Gave w (SetM.list s)) := by
  obtain ⟨i0, hi, hz0, hz1, hz2⟩ := info_parts info3
  go_enter Tryd.func26, Tryd.ntmps26
  go_wp2
  go_loopw [3, 4] (fun v p wr => ∃ k : Nat, k ≤ 8 ∧ p = .int .i64 k ∧ Owns w.heap.size wr v (SetM.upto s k) ∧ Below w.heap.size w wr) (fun _ p _ => 8 - (intOf p).toNat)
  case atStart => exact ⟨0, Nat.zero_le _, rfl, ⟨World.ownsRow_nil _ _ _ _, by simp [SetM.upto_zero]⟩, Below.refl _ _⟩
  case round =>
    obtain ⟨k, hk, rfl, ⟨hown, hnil⟩, hbel⟩ := hrel
    have hB := hbel.size
    have Hn := Lib.hid hnil
    clear hnil
    by_cases hlt : k < 8
    · have hul := SetM.upto_len s k
      by_cases hh : SetM.has s k = true
      · have Hs := Lib.hid (SetM.upto_hit s k hh)
        go_wp2_with (first
          | (go_at_call 19; refine (rhas_any _ _ _).mono ?_; rintro e w' ⟨rfl, rfl⟩; rw [hh])
          | (at_builtin; refine wpList_append_own _ rfl _ _ 47 rfl w.heap.size 3 i0 (.int .i64 0) 1 8 Tryd.underlying47 hi hz0 hz1 hz2 rfl (by decide) _ _ _ rfl (hown.alloc _) ⟨wr.heap.size, 0, none⟩ 1 1 [.int .i64 (k : Int)] rfl rfl ?c1 ?c2 ?c3 ?c4 ?c5 ?_))
        case c1 =>
          intro j u hj
          match j, hj with
          | 0, hj => simp at hj; subst hj; simp [Addr.add]
        case c2 => intro u hu; simp at hu; subst hu; rfl
        case c3 => unfold maxLen; omega
        case c4 => omega
        case c5 => simp; omega
        intro v' w1 hown' hgrow hnil'
        have hbel' : Below w.heap.size w w1 := (hbel.alloc (by omega) _).grown hgrow (by simp; omega) fun j hj => row_blk hown j hj
        have Hown := Lib.hid (list_snoc hown' hnil')
        clear hown' hgrow hown hnil'
        go_wp2
        go_roundw
        case rel => exact ⟨k + 1, by omega, by go_num, by rw [Hs.out]; exact Hown.out, hbel'⟩
        case measure => simp [intOf]; omega
      · have hh' : SetM.has s k = false := by simpa using hh
        have Hs := Lib.hid (SetM.upto_miss s k hh')
        clear hh
        go_wp2_with (go_at_call 19; refine (rhas_any _ _ _).mono ?_; rintro e w' ⟨rfl, rfl⟩; rw [hh'])
        go_roundw
        case rel => exact ⟨k + 1, by omega, by go_num, by rw [Hs.out]; exact ⟨hown, Hn.out⟩, hbel⟩
        case measure => simp [intOf]; omega
    · obtain rfl : k = 8 := by omega
      go_wp2
      go_ret
      exact ⟨_, rfl, ⟨hown, Hn.out⟩, hbel⟩
theorem rwith_any (s p : Int) (w : World) : Calls Tryd.prog 27 #[.int .i64 s, .int .i64 p] w fun e w' => e = .returned (.int .i64 (SetM.withN s p : Nat)) ∧ Below w.heap.size w w' := by
  obtain ⟨i0, hi, hz0, hz1, hz2⟩ := info_parts info3
  have hl8 := SetM.list_len s
  have HS := Lib.hid (SetM.of_with s p)
  go_enter Tryd.func27, Tryd.ntmps27
  go_wp2_with fail
  refine (rlist_any _ _).mono ?_
  rintro e w1 ⟨v, rfl, ⟨hown, hnil⟩, hbel⟩
  have hB := hbel.size
  clear hnil
  go_wp2_with (at_builtin; refine wpList_append_own _ rfl _ _ 47 rfl w.heap.size 3 i0 (.int .i64 0) 1 8 Tryd.underlying47 hi hz0 hz1 hz2 rfl (by decide) _ _ _ rfl (hown.alloc _) ⟨w1.heap.size, 0, none⟩ 1 1 [.int .i64 p] rfl rfl ?c1 ?c2 ?c3 ?c4 ?c5 ?_)
  case c1 =>
    intro j u hj
    match j, hj with
    | 0, hj => simp at hj; subst hj; simp [Addr.add]
  case c2 => intro u hu; simp at hu; subst hu; rfl
  case c3 => unfold maxLen; omega
  case c4 => omega
  case c5 => simp; omega
  intro v' w2 hown' hgrow hnil'
  have hbel' : Below w.heap.size w w2 := (hbel.alloc (by omega) _).grown hgrow (by simp; omega) fun j hj => row_blk hown j hj
  obtain ⟨L, hL⟩ : ∃ L, SetM.list s ++ [p] = L := ⟨_, rfl⟩
  have hrow' := list_snoc hown' hnil'
  rw [hL] at HS hrow'
  obtain ⟨a, cap, rfl, hrow⟩ := row_of hrow'
  have Hrow := Lib.hid hrow
  clear hown' hgrow hown hnil' hrow hrow' hL
  go_wp2_with (go_at_call 42; refine (rof_any _ _ L _ Hrow.out).mono ?_; rintro e w' ⟨rfl, rfl⟩)
  go_ret
  exact ⟨ret_int (by rw [HS.out]), hbel'⟩
/-- A number as one from 0 to n - 1. -/
theorem place_any (v n : Int) (w : World) (h : 0 < n) (h' : n ≤ 9223372036854775807) :
    Calls Tryd.prog 45 #[.int .i64 v, .int .i64 n] w fun e w' => e = .returned (.int .i64 (v % n)) ∧ w = w' := by
  have hm := Int.emod_nonneg v (show n ≠ 0 by omega)
  have hm2 := Int.emod_lt_of_pos v h
  have ht : 0 ≤ v.tmod n ∧ v % n = v.tmod n ∨ v.tmod n < 0 ∧ v % n = v.tmod n + n := by
    have h1 := Int.tmod_eq_emod (a := v) (b := n)
    split at h1 <;> omega
  have hb : -9223372036854775808 ≤ v.tmod n ∧ v.tmod n ≤ 9223372036854775807 := by omega
  obtain ⟨hb1, hb2⟩ := hb
  have hn0 : n ≠ 0 := by omega
  rcases ht with ⟨ht, he⟩ | ⟨ht, he⟩
  · have He := Lib.hid he
    clear he hm hm2
    go_enter Tryd.func45, Tryd.ntmps45
    go_wp2
    go_ret
    exact ⟨ret_int (by rw [He.out]), rfl⟩
  · have He := Lib.hid he
    clear he hm hm2
    go_enter Tryd.func45, Tryd.ntmps45
    go_wp2
    go_ret
    exact ⟨ret_int (by rw [He.out]), rfl⟩
/-! numbers of a row -/
open Tab in
/-- A row of numbers, at a place; 0 behind the end. -/
def num (L : List Int) (i : Int) (n : Int) : Int := L.getD i.toNat 0 % n
open Tab in
theorem at_any (a : Option Addr) (cap : Nat) (L : List Int) (i : Int) (w : World) (h : IntRow w ⟨a, cap⟩ L) (h0 : 0 ≤ i) :
    Calls Tryd.prog 46 #[.slice a L.length cap, .int .i64 i] w fun e w' => e = .returned (.int .i64 (L.getD i.toNat 0)) ∧ w = w' := by
  have hl := h.len
  unfold maxLen at hl
  obtain ⟨k, rfl⟩ := Int.eq_ofNat_of_zero_le h0
  by_cases hk : k < L.length
  · have hv := List.getElem?_eq_getElem hk
    generalize hu : L[k] = u at hv
    obtain ⟨x, hx, hc⟩ := IntRow.at h hv
    obtain rfl : a = some x := hx
    have HE : Hid (u = L.getD ((k : Int)).toNat 0) := Lib.hid (by rw [Int.toNat_natCast, List.getD_eq_getElem?_getD, hv]; rfl)
    generalize L.getD ((k : Int)).toNat 0 = r at HE ⊢
    clear hv hu h
    go_enter Tryd.func46, Tryd.ntmps46
    go_wp2
    go_ret
    exact ⟨ret_int HE.out, rfl⟩
  · have HE : Hid (0 = L.getD ((k : Int)).toNat 0) := Lib.hid (by rw [Int.toNat_natCast, List.getD_eq_getElem?_getD, List.getElem?_eq_none (by omega)]; rfl)
    generalize L.getD ((k : Int)).toNat 0 = r at HE ⊢
    clear h
    go_enter Tryd.func46, Tryd.ntmps46
    go_wp2
    go_ret
    exact ⟨ret_int HE.out, rfl⟩
open Tab in
theorem from_any (a : Option Addr) (cap : Nat) (L : List Int) (i n : Int) (w : World) (h : IntRow w ⟨a, cap⟩ L) (h0 : 0 ≤ i) (hn : 0 < n) (hn' : n ≤ 1000) :
    Calls Tryd.prog 33 #[.slice a L.length cap, .int .i64 i, .int .i64 n] w fun e w' => e = .returned (.int .i64 (num L i n)) ∧ w = w' := by
  have H := Lib.hid h
  clear h
  go_enter Tryd.func33, Tryd.ntmps33
  go_wp2_with fail
  refine (at_any a cap L i w H.out h0).mono ?_
  rintro e w' ⟨rfl, rfl⟩
  have HE : Hid (L.getD i.toNat 0 % n = num L i n) := Lib.hid rfl
  generalize L.getD i.toNat 0 = v at HE ⊢
  go_wp2_with fail
  refine (place_any v n _ hn (by omega)).mono ?_
  rintro e w' ⟨rfl, rfl⟩
  go_wp2
  go_ret
  exact ⟨ret_int HE.out, rfl⟩
theorem num_range (L : List Int) (i n : Int) (hn : 0 < n) : 0 ≤ num L i n ∧ num L i n < n := ⟨Int.emod_nonneg _ (by omega), Int.emod_lt_of_pos _ hn⟩
end RefS
namespace Gath
open Go Go.RowKit
open Tab
section
variable {α : Type} {enc : α → List Value} {size : Nat} {B : Nat} {w w' : World} {e : TypeId} {v : Value} {l : List α}
/-- A slice of its own memory (laid since B) that holds the elements l. -/
def Owns (enc : α → List Value) (size B : Nat) (w : World) (e : TypeId) (v : Value) (l : List α) : Prop := w.ownsRow B e size v l.length (l.flatMap enc)
theorem Owns.nil : Owns enc size B w e (.slice none 0 0) ([] : List α) := World.ownsRow_nil _ _ _ _
theorem Owns.snoc {x : α} {v' : Value} (h : w.ownsRow B e size v' (l.length + 1) (l.flatMap enc ++ enc x)) : Owns enc size B w e v' (l ++ [x]) := by
  unfold Owns
  rw [List.length_append, List.flatMap_append, List.flatMap_cons, List.flatMap_nil, List.append_nil]
  exact h
theorem Owns.below (h : Owns enc size B w e v l) (hb : Below w.heap.size w w') : Owns enc size B w' e v l :=
  World.ownsRow.kept (row := none) h ⟨hb.os, hb.tape, hb.output, hb.size, fun j hj _ => hb.block j hj⟩ (by cases hv : v.ownBlock <;> simp)
theorem Owns.mono {B' : Nat} (h : Owns enc size B w e v l) (hb : B' ≤ B) : Owns enc size B' w e v l := by
  refine ⟨h.1, ?_⟩
  rcases h.2 with hn | ⟨g, cap, cur, rfl, h1, h2⟩
  · exact .inl hn
  · exact .inr ⟨g, cap, cur, rfl, by omega, h2⟩
theorem Owns.blk (h : Owns enc size B w e v l) (j : Nat) (hj : v.ownBlock = some j) : B ≤ j := by
  rcases h.2 with ⟨rfl, _⟩ | ⟨g, cap, cur, rfl, hb, _, _⟩
  · simp [Value.ownBlock] at hj
  · obtain rfl : g = j := by simpa [Value.ownBlock] using hj
    exact hb
theorem flat_at (henc : ∀ x, (enc x).length = size) : ∀ (l : List α) (i : Nat) (x : α), l[i]? = some x → ((l.flatMap enc).drop (i * size)).take size = enc x
  | [], i, x, h => by simp at h
  | y :: l, 0, x, h => by
    obtain rfl : y = x := by simpa using h
    rw [Nat.zero_mul, List.drop_zero, List.flatMap_cons, ← henc y, List.take_left]
  | y :: l, i + 1, x, h => by
    rw [List.flatMap_cons, Nat.add_mul, Nat.one_mul, Nat.add_comm, ← henc y, List.drop_append, List.drop_of_length_le (by omega), List.nil_append, Nat.add_sub_cancel_left, henc y]
    exact flat_at henc l i x (by simpa using h)
/-- What was gathered reads as a row. -/
theorem Owns.row (h : Owns enc size B w e v l) (henc : ∀ x, (enc x).length = size) : ∃ s : Sl, v = s.val l.length ∧ RowOf size enc w s l := by
  rcases h.2 with ⟨rfl, h0⟩ | ⟨g, cap, cur, rfl, h1, h2, h3, h4, h5, h6⟩
  · have : l = [] := List.eq_nil_of_length_eq_zero h0
    subst this
    exact ⟨⟨none, 0⟩, rfl, RowOf.nil w⟩
  · refine ⟨⟨some ⟨g, 0, none⟩, cap⟩, rfl, .inr ⟨_, rfl, h3, h4, fun i x hx j u hu => ?_⟩⟩
    have hi : i < l.length := (List.getElem?_eq_some_iff.1 hx).1
    have hj : j < size := by rw [← henc x]; exact (List.getElem?_eq_some_iff.1 hu).1
    rw [Addr.add_mid, Nat.zero_add, Addr.add_mid, cell_of_row _ _ _ _ _ _ h2]
    have hf := flat_at henc l i x hx
    rw [← h6] at hf
    rw [← hf] at hu
    have hlt : i * size + j < l.length * size := by
      have : (i + 1) * size ≤ l.length * size := Nat.mul_le_mul_right _ hi
      rw [Nat.add_mul, Nat.one_mul] at this
      omega
    rw [List.getElem?_take, if_pos hj, List.getElem?_drop, List.getElem?_take, if_pos hlt, Array.getElem?_toList] at hu
    exact hu
end
end Gath
namespace May
open Go.ChangeShapes Go.WideShapes Go.ChangeAt Go.RowKit
open Tab
/-- Phases that lie at a block's head, as a row. -/
theorem phases_in {w : World} {g : Nat} {cs : Array Value} {t : TypeId} {fr : Nat × Nat} {T : Tab} {h : Hd} (hg : w.heap[g]? = some (.cells cs t fr)) (C : CellsOk T h cs) (hn : T.phases.length = 8) :
    RowOf 13 Ph.cells w ⟨some ⟨g, 0, none⟩, 8⟩ T.phases := by
  refine .inr ⟨_, rfl, by rw [hn]; exact Nat.le_refl _, (show 8 ≤ maxLen by decide), fun i v hv j u hu => ?_⟩
  rw [add_two, Addr.add_mid, Nat.zero_add, Nat.mul_comm]
  exact range_of hg (13 * i) 13 _ (C.phase i v hv) j u hu
/-- What a walk over a boxed table holds on to. -/
structure St (w : World) (N : Nat) (cs : Array Value) (h : Hd) (T : Tab) (W : World) : Prop where
  bel : Below w.heap.size w W
  blk : W.heap[N]? = some (.cells cs 31 (0, 0))
  tab : IsTab W h T
  le : w.heap.size ≤ N
theorem St.step {w W W' : World} {N : Nat} {cs : Array Value} {h : Hd} {T : Tab} (k : St w N cs h T W) (hb : Below W.heap.size W W') : St w N cs h T W' :=
  ⟨chain k.bel hb, by rw [hb.block N (Array.getElem?_eq_some_iff.1 k.blk).1]; exact k.blk, k.tab.below hb, k.le⟩
theorem St.cell {w W : World} {N : Nat} {cs : Array Value} {h : Hd} {T : Tab} (k : St w N cs h T W) {o : Nat} {v : Value} (hv : cs[o]? = some v) : W.cell? ⟨N, o, none⟩ = some v := by
  rw [cell_of_row _ _ _ _ _ _ k.blk]; exact hv
theorem St.box {w : World} {cs : Array Value} {h : Hd} {T : Tab} (k : IsTab w h T) : St w w.heap.size cs h T (w.alloc (.cells cs 31)) :=
  ⟨(Below.refl _ _).alloc (Nat.le_refl _) _, heap_alloc_new _ _, k.below ((Below.refl _ _).alloc (Nat.le_refl _) _), Nat.le_refl _⟩
end May
namespace May
open Go.ChangeShapes Go.WideShapes Go.ChangeAt Go.RowKit
open Tab
def GAll (l : List Gr) : Prop := l.all (fun v => groupMay v.data) = true
theorem GAll.step {l : List Gr} {k : Nat} {v : Gr} (h : l[k]? = some v) (hk : GAll (l.take k)) (hv : groupMay v.data = true) : GAll (l.take (k + 1)) := all_step (f := fun v : Gr => groupMay v.data) h hk hv
theorem infoT : (Tryd.prog.info? 31).map (·.size) = some 131 := by kernel_rfl
end May
namespace Copy
open Go Go.RowKit
open Tab
section
variable {P : Program}
end
/-! ### a list's elements as one row -/
section
variable {α : Type} {n : Nat} {enc : α → List Value}
theorem flat_at (he : ∀ v, (enc v).length = n) : ∀ (l : List α) (i : Nat) (v : α) (j : Nat) (u : Value), l[i]? = some v → (enc v)[j]? = some u → (l.flatMap enc)[i * n + j]? = some u
  | x :: l, 0, v, j, u, h, hu => by
    obtain rfl := Option.some.inj h
    rw [List.flatMap_cons, Nat.zero_mul, Nat.zero_add, List.getElem?_append_left (List.getElem?_eq_some_iff.1 hu).1]; exact hu
  | x :: l, i + 1, v, j, u, h, hu => by
    have := flat_at he l i v j u (by simpa using h) hu
    rw [List.flatMap_cons, List.getElem?_append_right (by rw [he, Nat.add_mul]; omega), he, Nat.add_mul, Nat.one_mul, show i * n + n + j - n = i * n + j by omega]
    exact this
/-- A block that holds just a list's elements, as a slice over it. -/
theorem row_of_block (he : ∀ v, (enc v).length = n) {w : World} {g : Nat} {t : TypeId} {fr : Nat × Nat} (l : List α) (hg : w.heap[g]? = some (.cells (l.flatMap enc).toArray t fr)) (hl : l.length ≤ maxLen) : RowOf n enc w ⟨some ⟨g, 0, none⟩, l.length⟩ l := by
  refine .inr ⟨_, rfl, Nat.le_refl _, hl, fun i v hv j u hu => ?_⟩
  rw [add_two, Addr.add_mid, cell_of_row _ _ _ _ _ _ hg, Nat.zero_add]
  simpa using flat_at he l i v j u hv hu
end
end Copy
namespace Clone
open Go.ChangeShapes Go.WideShapes Go.ChangeAt Go.RowKit
open Tab Copy
open May (chain infoP infoG infoD infoR infoB)
end Clone
namespace Owned
open Go Go.RowKit
open Tab Copy
structure Blk where
  at_ : Nat
  cells : List Value
  type : TypeId
def Own (B : Nat) (w : World) (L : List Blk) : Prop := (L.map Blk.at_).Nodup ∧ ∀ x ∈ L, B ≤ x.at_ ∧ w.heap[x.at_]? = some (.cells x.cells.toArray x.type (0, 0))
variable {B : Nat} {w w' : World} {L M : List Blk} {x : Blk}
theorem Own.nil : Own B w [] := ⟨by simp, fun x h => by simp at h⟩
theorem Own.get (h : Own B w L) (hx : x ∈ L) : w.heap[x.at_]? = some (.cells x.cells.toArray x.type (0, 0)) := (h.2 x hx).2
theorem Own.base (h : Own B w L) (hx : x ∈ L) : B ≤ x.at_ := (h.2 x hx).1
theorem Own.lt (h : Own B w L) (hx : x ∈ L) : x.at_ < w.heap.size := (Array.getElem?_eq_some_iff.1 (h.get hx)).1
theorem Own.step (h : Own B w L) (hb : Below w.heap.size w w') : Own B w' L := ⟨h.1, fun x hx => ⟨h.base hx, by rw [hb.block _ (h.lt hx)]; exact h.get hx⟩⟩
theorem Own.tail (h : Own B w (x :: L)) : Own B w L := ⟨(List.nodup_cons.1 h.1).2, fun y hy => h.2 y (List.mem_cons_of_mem _ hy)⟩
/-- A new block. -/
theorem Own.add (h : Own B w L) (hb : Below w.heap.size w w') {g : Nat} {cs : List Value} {t : TypeId} (hg : w'.heap[g]? = some (.cells cs.toArray t (0, 0))) (hn : w.heap.size ≤ g) (hB : B ≤ w.heap.size) : Own B w' (⟨g, cs, t⟩ :: L) := by
  refine ⟨List.nodup_cons.2 ⟨fun hm => ?_, h.1⟩, fun y hy => ?_⟩
  · obtain ⟨y, hy, e⟩ := List.mem_map.1 hm
    have := h.lt hy
    have e' : y.at_ = g := e
    omega
  · rcases List.mem_cons.1 hy with rfl | hy
    · exact ⟨Nat.le_trans hB hn, hg⟩
    · exact (h.step hb).2 y hy
/-- The first block is written. -/
theorem Own.write (h : Own B w (x :: L)) {cs : List Value} (hg : w'.heap[x.at_]? = some (.cells cs.toArray x.type (0, 0))) (ho : ∀ j, j ≠ x.at_ → w'.heap[j]? = w.heap[j]?) : Own B w' (⟨x.at_, cs, x.type⟩ :: L) := by
  have hx := (List.nodup_cons.1 h.1).1
  refine ⟨List.nodup_cons.2 ⟨hx, (List.nodup_cons.1 h.1).2⟩, fun y hy => ?_⟩
  rcases List.mem_cons.1 hy with rfl | hy
  · exact ⟨(h.base (x := x) (List.mem_cons_self ..) : B ≤ x.at_), hg⟩
  · have hne : y.at_ ≠ x.at_ := fun e => hx (List.mem_map.2 ⟨y, hy, e⟩)
    exact ⟨h.base (List.mem_cons_of_mem _ hy), by rw [ho _ hne]; exact h.get (List.mem_cons_of_mem _ hy)⟩
theorem Own.cell (h : Own B w L) (hx : x ∈ L) (i : Nat) : w.cell? ⟨x.at_, i, none⟩ = x.cells[i]? := by
  rw [cell_of_row _ _ _ _ _ _ (h.get hx)]; simp
theorem Own.frozen (h : Own B w L) (hx : x ∈ L) (i : Nat) : w.frozen? ⟨x.at_, i, none⟩ = false := frozen_of_row _ _ _ _ _ (h.get hx)
end Owned
namespace Clone
open Go.ChangeShapes Go.WideShapes Go.ChangeAt Go.RowKit
open Tab Copy Owned
open May (chain infoP infoG infoD infoR infoB infoT)
/-- A group whose rows are blocks of their own. -/
structure NG where
  r0 : List Int
  r1 : List Int
  b0 : Nat
  b1 : Nat
def NG.gr (g : NG) : Gr := ⟨g.r0, g.r1, ⟨some ⟨g.b0, 0, none⟩, g.r0.length⟩, ⟨some ⟨g.b1, 0, none⟩, g.r1.length⟩⟩
def NG.blks (g : NG) : List Blk := [⟨g.b0, g.r0.flatMap (fun n => [I n]), 3⟩, ⟨g.b1, g.r1.flatMap (fun n => [I n]), 3⟩]
abbrev at0 (g n : Nat) : Sl := ⟨some ⟨g, 0, none⟩, n⟩
/-- Where a clone's parts lie. -/
def own (T : Tab) (ns : List NG) (G D R S : Nat) : List Blk :=
  ⟨G, (ns.map NG.gr).flatMap Gr.cells, 86⟩ :: ⟨D, T.dets.flatMap Det.cells, 75⟩ :: ⟨R, T.rails.flatMap Rl.cells, 78⟩ :: ⟨S, T.buses.flatMap Bs.cells, 53⟩ :: ns.flatMap NG.blks
def hd (T : Tab) (G D R S : Nat) : Hd := ⟨at0 G T.groups.length, at0 D T.dets.length, at0 R T.rails.length, at0 S T.buses.length⟩
section
variable {T : Tab} {ns : List NG} {G D R S : Nat}
end
/-! ### a table's cells, with a list moved -/
structure Eights (T : Tab) : Prop where
  p : T.phases.length = 8
  c : T.conflict.length = 8
  f : T.flash.length = 8
theorem Eights.tab {T : Tab} (k : Eights T) (h : Hd) (w : World) : CellsOk T h (T.cells h).toArray := by
  have h0 : IsTab w ⟨⟨none, 0⟩, ⟨none, 0⟩, ⟨none, 0⟩, ⟨none, 0⟩⟩ { T with groups := [], dets := [], rails := [], buses := [] } :=
    ⟨k.p, k.c, k.f, ⟨[], rfl, RowOf.nil w, fun g hg => by simp at hg⟩, RowOf.nil w, RowOf.nil w, RowOf.nil w⟩
  have := cells_ok h0
  obtain ⟨p0, p1, p2, p3, p4, p5, p6, p7, hp⟩ := eight k.p
  obtain ⟨c0, c1, c2, c3, c4, c5, c6, c7, hc⟩ := eight k.c
  obtain ⟨f0, f1, f2, f3, f4, f5, f6, f7, hf⟩ := eight k.f
  clear k
  obtain ⟨phases, groups, conflict, dets, rails, buses, extend, budget, start, revert, least, flash, window, share⟩ := T
  simp only at hp hc hf
  subst hp hc hf
  clear this h0
  constructor
  all_goals try rfl
  case one => simp [Tab.cells, Ph.cells, Value.oneCell']
  intro i p hp
  match i, hp with
  | 0, hp | 1, hp | 2, hp | 3, hp | 4, hp | 5, hp | 6, hp | 7, hp =>
    obtain rfl := Option.some.inj hp
    rfl
  | i + 8, hp => cases hp
/-- The zero table. -/
def zPh : Ph := ⟨false, 0, 0, 0, 0, 0, 0, 0, 0, 0, 0, false, false⟩
def zTab : Tab := ⟨List.replicate 8 zPh, [], List.replicate 8 0, [], [], [], 0, 0, 0, 0, 0, List.replicate 8 0, 0, 0⟩
def zHd : Hd := ⟨⟨none, 0⟩, ⟨none, 0⟩, ⟨none, 0⟩, ⟨none, 0⟩⟩
theorem info31 : (Tryd.prog.info? 31).map (fun i => (i.zero, i.size)) = some (some (.agg (zTab.cells zHd).toArray), 131) := by kernel_rfl
theorem z_is (w : World) : IsTab w zHd zTab := ⟨rfl, rfl, rfl, ⟨[], rfl, RowOf.nil w, fun g hg => by simp at hg⟩, RowOf.nil w, RowOf.nil w, RowOf.nil w⟩
end Clone
namespace Clone
open Go.ChangeShapes Go.WideShapes Go.ChangeAt Go.RowKit
open Tab Copy Owned
open May (chain infoP infoG infoD infoR infoB infoT take_succ')
/-- The phases of the region that fills one group. -/
def D5 (w : World) (B M : Nat) (L0 L1 L2 L3 : List Blk) (q : Nat) (w' : World) : Prop :=
  Below B w w' ∧ match q with
    | 0 => Owned.Own B w' L0 ∧ w'.heap.size = M + 1
    | 1 => Owned.Own B w' L1 ∧ w'.heap.size = M + 1 + 1
    | 2 => Owned.Own B w' L2 ∧ w'.heap.size = M + 1 + 1 + 1
    | _ => Owned.Own B w' L3
theorem D5.get {w w' : World} {B M q : Nat} {L0 L1 L2 L3 : List Blk} {x : Blk} (h : D5 w B M L0 L1 L2 L3 q w') (h0 : x ∈ L0) (h1 : x ∈ L1) (h2 : x ∈ L2) (h3 : x ∈ L3) : w'.heap[x.at_]? = some (.cells x.cells.toArray x.type (0, 0)) := by
  match q, h with
  | 0, ⟨_, h, _⟩ => exact h.get h0
  | 1, ⟨_, h, _⟩ => exact h.get h1
  | 2, ⟨_, h, _⟩ => exact h.get h2
  | _ + 3, ⟨_, h⟩ => exact h.get h3
end Clone
namespace OnS
open Go.ChangeShapes Go.WideShapes Go.ChangeAt Go.RowKit
open Tab Gath RefS
open May (St phases_in infoP)
end OnS
namespace ChkM
open Go Tab PlaceM PlanM OnS May
def cfAt (T : Tab) (p : Int) : Int := T.conflict.getD p.toNat 0
/-! ### rule 3 -/
/-! ### all rules -/
end ChkM
namespace Phx
open Go.ChangeShapes Go.WideShapes Go.ChangeAt Go.RowKit
open Tab
open May (infoP)
end Phx
namespace RefC
open Go.ChangeShapes Go.WideShapes Go.ChangeAt Go.RowKit
def cap (n : Int) : Int := if n < 0 then 0 else if 2147483647 < n then 2147483647 else n
def add (a b : Int) : Int := cap (cap a + cap b)
def sums (l : List Int) : Int := l.foldl add 0
end RefC
namespace Clear
open Go.ChangeShapes Go.WideShapes Go.ChangeAt Go.RowKit
open Tab Gath RefS OnS RefC
open May (St phases_in infoP infoT row_new)
def phAt (T : Tab) (p : Int) : Ph := T.phases.getD p.toNat default
end Clear
namespace Rg
open Go Go.ChangeShapes Go.WideShapes Go.ChangeAt Go.RowKit
open Tab Flat TabArg QL Ru PlanM
open ChkM (cfAt)
open PlaceM (where_ spots Spt)
open Clear (phAt)
structure Rg where
  g : Int
  a0 : Int
  a1 : Int
  cr : Bool
deriving DecidableEq
structure Ln where
  n : Int
  x : Int
  t : Int
deriving DecidableEq
def Rg.cells (r : Rg) : List Value := [I r.g, I r.a0, I r.a1, .bool r.cr]
def Ln.cells (l : Ln) : List Value := [I l.n, I l.x, I l.t]
def Rg.at (r : Rg) : Nat → Int
  | 0 => r.a0
  | _ => r.a1
def Rg.put (r : Rg) : Nat → Int → Rg
  | 0, x => ⟨r.g, x, r.a1, r.cr⟩
  | _, x => ⟨r.g, r.a0, x, r.cr⟩
def zRu : Ru := ⟨0, 0, 0, 0, 0, 0, 0, false, false, 0, 0, 0⟩
def runsC (rs : List Ru) : List Value := rs.flatMap Ru.cells
def ruAt (rs : List Ru) (p : Int) : Ru := rs.getD p.toNat zRu
section
variable {tc : List Value} {r : Rg} {rc : List Value} {want gr bu : Int} (h1 : tc.length = 131) (h2 : rc.length = 96)
include h1 h2
end
/-- The cells of a tick that lies in a block of the call's own. -/
structure KB (u : World) (g : Nat) (tc : List Value) (r : Rg) (rc : List Value) (want gr bu : Int) : Prop where
  lt : Lies u ⟨g, 0, none⟩ tc
  lr : Lies u ⟨g, 131, none⟩ r.cells
  ln : Lies u ⟨g, 135, none⟩ rc
  rg : u.cell? ⟨g, 131, none⟩ = some (I r.g)
  r0 : u.cell? ⟨g, 132, none⟩ = some (I r.a0)
  r1 : u.cell? ⟨g, 133, none⟩ = some (I r.a1)
  rc : u.cell? ⟨g, 134, none⟩ = some (.bool r.cr)
  w : u.cell? ⟨g, 231, none⟩ = some (I want)
  gr : u.cell? ⟨g, 232, none⟩ = some (I gr)
  bu : u.cell? ⟨g, 233, none⟩ = some (I bu)
theorem KB.cell {u : World} {g : Nat} {tc : List Value} {r : Rg} {rc : List Value} {want gr bu : Int} (h : KB u g tc r rc want gr bu) {j : Nat} {v : Value} (hj : rc[j]? = some v) : u.cell? ⟨g, 135 + j, none⟩ = some v := by
  have := h.ln j v hj
  rwa [Addr.add_mid] at this
theorem KB.tab {u : World} {g : Nat} {tc : List Value} {r : Rg} {rc : List Value} {want gr bu : Int} (h : KB u g tc r rc want gr bu) {j : Nat} {v : Value} (hj : tc[j]? = some v) : u.cell? ⟨g, j, none⟩ = some v := by
  have := h.lt j v hj
  rwa [Addr.add_mid, Nat.zero_add] at this
theorem runs_take : ∀ {l : List Ru} {q : Nat} {u : Ru}, l[q]? = some u → ((runsC l).drop (q * 12)).take 12 = u.cells
  | [], _, _, h => by simp at h
  | x :: l, 0, u, h => by
    simp at h
    subst h
    simp [runsC, Ru.cells]
  | x :: l, q + 1, u, h => by
    have := runs_take (l := l) (q := q) (by simpa using h)
    rw [show runsC (x :: l) = x.cells ++ runsC l from rfl, show (q + 1) * 12 = x.cells.length + q * 12 by simp [Ru.cells]; omega, ← List.drop_drop, List.drop_left]
    exact this
theorem runs_len : ∀ l : List Ru, (runsC l).length = l.length * 12
  | [] => rfl
  | x :: l => by
    rw [show runsC (x :: l) = x.cells ++ runsC l from rfl, List.length_append, runs_len l]
    simp [Ru.cells]; omega
theorem ru_at {rs : List Ru} (h8 : rs.length = 8) {p : Nat} (hp : p < 8) : rs[p]? = some (ruAt rs p) := by
  unfold ruAt
  rw [Int.toNat_natCast, List.getD_eq_getElem?_getD, List.getElem?_eq_getElem (by omega)]
  rfl
theorem runs_at {rs : List Ru} (h8 : rs.length = 8) {p : Nat} (hp : p < 8) {j : Nat} {v : Value} (hj : (ruAt rs p).cells[j]? = some v) : (runsC rs)[p * 12 + j]? = some v := by
  have h1 := runs_take (ru_at h8 hp)
  have hj12 : j < 12 := by have := (List.getElem?_eq_some_iff.1 hj).1; simpa [Ru.cells] using this
  rw [← h1, List.getElem?_take, if_pos hj12, List.getElem?_drop] at hj
  exact hj
theorem infoRs : (Tryd.prog.info? 41).map (·.size) = some 96 := by kernel_rfl
/-! The sets of the phases whose runs a rule holds for. -/
def thTo (f : Ru → Bool) : Nat → List Ru → List Int
  | _, [] => []
  | i, r :: l => (if f r then [(i : Int)] else []) ++ thTo f (i + 1) l
theorem thTo_append (f : Ru → Bool) : ∀ (i : Nat) (l m : List Ru), thTo f i (l ++ m) = thTo f i l ++ thTo f (i + l.length) m
  | i, [], m => by simp [thTo]
  | i, r :: l, m => by
    rw [List.cons_append, thTo, thTo, thTo_append f (i + 1) l m, List.append_assoc, List.length_cons, Nat.add_right_comm i 1, Nat.add_assoc i]
theorem th_step {f : Ru → Bool} {l : List Ru} {q : Nat} {r : Ru} (h : l[q]? = some r) : thTo f 0 (l.take (q + 1)) = thTo f 0 (l.take q) ++ (if f r then [(q : Int)] else []) := by
  have hq : q < l.length := (List.getElem?_eq_some_iff.1 h).1
  rw [PlaceM.take_succ h, thTo_append, List.length_take, Nat.min_eq_left (by omega), Nat.zero_add]
  simp [thTo]
def thS (f : Ru → Bool) (rs : List Ru) : Nat := SetM.of (thTo f 0 rs)
theorem th_with {f : Ru → Bool} {l : List Ru} {q : Nat} {r : Ru} (h : l[q]? = some r) (hp : f r = true) : SetM.withN (SetM.of (thTo f 0 (l.take q)) : Nat) q = SetM.of (thTo f 0 (l.take (q + 1))) := by
  rw [SetM.with_of, th_step h, hp]; rfl
theorem th_skip {f : Ru → Bool} {l : List Ru} {q : Nat} {r : Ru} (h : l[q]? = some r) (hp : f r = false) : SetM.of (thTo f 0 (l.take (q + 1))) = SetM.of (thTo f 0 (l.take q)) := by
  rw [th_step h, hp]; simp
def grB (r : Ru) : Bool := r.co == 1
/-! P19.1, P19.2, as package ring has it. -/
end Rg
namespace Tr
attribute [local go_sem] Oper.semAt_some
open Go Go.ChangeShapes Go.WideShapes Go.ChangeAt Go.RowKit
open Tab Flat TabArg QL Ru Rg PlanM
structure Rid where
  l0 : Int
  l1 : Int
  l2 : Int
  l3 : Int
  was : Int
  sp : Int
deriving DecidableEq
def Rid.cells (s : Rid) : List Value := [I s.l0, I s.l1, I s.l2, I s.l3, I s.was, I s.sp]
def Rid.lk (s : Rid) : Nat → Int
  | 0 => s.l0
  | 1 => s.l1
  | 2 => s.l2
  | _ => s.l3
def Rid.put (s : Rid) : Nat → Int → Rid
  | 0, v => { s with l0 := v }
  | 1, v => { s with l1 := v }
  | 2, v => { s with l2 := v }
  | _, v => { s with l3 := v }
theorem infoRd : (Tryd.prog.info? 34).map (·.size) = some 6 := by kernel_rfl
theorem infoBs : (Tryd.prog.info? 53).map (·.size) = some 2 := by kernel_rfl
theorem tab_bu {T : Tab} {h : Hd} {w : World} (ht : IsTab w h T) : (T.cells h)[115]? = some (.slice h.b.a T.buses.length h.b.cap) := by
  have := (cells_ok ht).b
  rwa [List.getElem?_toArray] at this
theorem tab_ex {T : Tab} {h : Hd} {w : World} (ht : IsTab w h T) : (T.cells h)[116]? = some (I T.extend) := by
  have := (cells_ok ht).extend
  rwa [List.getElem?_toArray] at this
theorem tab_bd {T : Tab} {h : Hd} {w : World} (ht : IsTab w h T) : (T.cells h)[117]? = some (I T.budget) := by
  have := (cells_ok ht).budget
  rwa [List.getElem?_toArray] at this
theorem lk_at (s : Rid) {k : Nat} (hk : k < 4) : s.cells[k]? = some (I (s.lk k)) := by
  match k, hk with
  | 0, _ => rfl
  | 1, _ => rfl
  | 2, _ => rfl
  | 3, _ => rfl
/-- math/bits.deBruijn64tab holds what its initialiser lays, where a number below 16 looks. -/
structure DB (w : World) : Prop where
  c0 : w.cell? ⟨1, 0, none⟩ = some (.int .u8 0)
  c1 : w.cell? ⟨1, 1, none⟩ = some (.int .u8 1)
  c3 : w.cell? ⟨1, 3, none⟩ = some (.int .u8 2)
  c7 : w.cell? ⟨1, 7, none⟩ = some (.int .u8 3)
theorem DB.lt {w : World} (h : DB w) : 1 < w.heap.size := World.block_lt_of_cell? w _ h.c0
theorem DB.kept {w w' : World} (h : DB w) (hb : w'.heap[1]? = w.heap[1]?) : DB w' := by
  have e : ∀ o, w'.cell? ⟨1, o, none⟩ = w.cell? ⟨1, o, none⟩ := fun o => by simp only [World.cell?, hb]
  exact ⟨(e 0).trans h.c0, (e 1).trans h.c1, (e 3).trans h.c3, (e 7).trans h.c7⟩
theorem DB.below {w w' : World} (h : DB w) (hb : Below w.heap.size w w') : DB w' := h.kept (hb.block _ h.lt)
/-- The place of the lowest bit. -/
def ctz (r : Nat) : Nat := if r % 2 = 1 then 0 else if r % 4 = 2 then 1 else if r % 8 = 4 then 2 else 3
def bitsOf (r : Nat) : List Nat := (List.range 4).filter fun k => r.testBit k
theorem bitsOf_zero : bitsOf 0 = [] := by decide
theorem bitsOf_fin : ∀ r : Fin 16, r.val ≠ 0 → bitsOf r.val = ctz r.val :: bitsOf (r.val &&& (r.val - 1)) ∧ (r.val &&& (r.val - 1)) < r.val ∧ ctz r.val < 4 := by decide +kernel
theorem bitsOf_step {r : Nat} (h0 : r ≠ 0) (h : r < 16) : bitsOf r = ctz r :: bitsOf (r &&& (r - 1)) ∧ (r &&& (r - 1)) < r ∧ ctz r < 4 := bitsOf_fin ⟨r, h⟩ h0
theorem mem_bitsOf {r k : Nat} : k ∈ bitsOf r ↔ k < 4 ∧ r.testBit k = true := by simp [bitsOf]
theorem tz64_1 (w : World) (hd : DB w) : Calls Tryd.prog 53 #[.int .u64 1] w fun e w' => e = .returned (.int .i64 0) ∧ w' = w := by
  have c0 := hd.c0
  have key : IntKind.u64.wrap (bits .and .u64 1 (IntKind.u64.wrap (-1)) * 285870213051353865) / 288230376151711744 = 0 := by decide +kernel
  go_enter Tryd.func53, Tryd.ntmps53
  go_wp2_with (simp only [key])
  go_ret
  exact ⟨rfl, rfl⟩
theorem tz_1 (w : World) (hd : DB w) : Calls Tryd.prog 38 #[.int .u64 1] w fun e w' => e = .returned (.int .i64 0) ∧ w' = w := by
  go_enter Tryd.func38, Tryd.ntmps38
  go_wp2_with (go_at_call 53; refine (tz64_1 _ hd).mono ?_; rintro e w' ⟨rfl, rfl⟩)
  go_ret
  exact ⟨rfl, rfl⟩
theorem tz64_2 (w : World) (hd : DB w) : Calls Tryd.prog 53 #[.int .u64 2] w fun e w' => e = .returned (.int .i64 1) ∧ w' = w := by
  have c0 := hd.c1
  have key : IntKind.u64.wrap (bits .and .u64 2 (IntKind.u64.wrap (-2)) * 285870213051353865) / 288230376151711744 = 1 := by decide +kernel
  go_enter Tryd.func53, Tryd.ntmps53
  go_wp2_with (simp only [key])
  go_ret
  exact ⟨rfl, rfl⟩
theorem tz_2 (w : World) (hd : DB w) : Calls Tryd.prog 38 #[.int .u64 2] w fun e w' => e = .returned (.int .i64 1) ∧ w' = w := by
  go_enter Tryd.func38, Tryd.ntmps38
  go_wp2_with (go_at_call 53; refine (tz64_2 _ hd).mono ?_; rintro e w' ⟨rfl, rfl⟩)
  go_ret
  exact ⟨rfl, rfl⟩
theorem tz64_3 (w : World) (hd : DB w) : Calls Tryd.prog 53 #[.int .u64 3] w fun e w' => e = .returned (.int .i64 0) ∧ w' = w := by
  have c0 := hd.c0
  have key : IntKind.u64.wrap (bits .and .u64 3 (IntKind.u64.wrap (-3)) * 285870213051353865) / 288230376151711744 = 0 := by decide +kernel
  go_enter Tryd.func53, Tryd.ntmps53
  go_wp2_with (simp only [key])
  go_ret
  exact ⟨rfl, rfl⟩
theorem tz_3 (w : World) (hd : DB w) : Calls Tryd.prog 38 #[.int .u64 3] w fun e w' => e = .returned (.int .i64 0) ∧ w' = w := by
  go_enter Tryd.func38, Tryd.ntmps38
  go_wp2_with (go_at_call 53; refine (tz64_3 _ hd).mono ?_; rintro e w' ⟨rfl, rfl⟩)
  go_ret
  exact ⟨rfl, rfl⟩
theorem tz64_4 (w : World) (hd : DB w) : Calls Tryd.prog 53 #[.int .u64 4] w fun e w' => e = .returned (.int .i64 2) ∧ w' = w := by
  have c0 := hd.c3
  have key : IntKind.u64.wrap (bits .and .u64 4 (IntKind.u64.wrap (-4)) * 285870213051353865) / 288230376151711744 = 3 := by decide +kernel
  go_enter Tryd.func53, Tryd.ntmps53
  go_wp2_with (simp only [key])
  go_ret
  exact ⟨rfl, rfl⟩
theorem tz_4 (w : World) (hd : DB w) : Calls Tryd.prog 38 #[.int .u64 4] w fun e w' => e = .returned (.int .i64 2) ∧ w' = w := by
  go_enter Tryd.func38, Tryd.ntmps38
  go_wp2_with (go_at_call 53; refine (tz64_4 _ hd).mono ?_; rintro e w' ⟨rfl, rfl⟩)
  go_ret
  exact ⟨rfl, rfl⟩
theorem tz64_5 (w : World) (hd : DB w) : Calls Tryd.prog 53 #[.int .u64 5] w fun e w' => e = .returned (.int .i64 0) ∧ w' = w := by
  have c0 := hd.c0
  have key : IntKind.u64.wrap (bits .and .u64 5 (IntKind.u64.wrap (-5)) * 285870213051353865) / 288230376151711744 = 0 := by decide +kernel
  go_enter Tryd.func53, Tryd.ntmps53
  go_wp2_with (simp only [key])
  go_ret
  exact ⟨rfl, rfl⟩
theorem tz_5 (w : World) (hd : DB w) : Calls Tryd.prog 38 #[.int .u64 5] w fun e w' => e = .returned (.int .i64 0) ∧ w' = w := by
  go_enter Tryd.func38, Tryd.ntmps38
  go_wp2_with (go_at_call 53; refine (tz64_5 _ hd).mono ?_; rintro e w' ⟨rfl, rfl⟩)
  go_ret
  exact ⟨rfl, rfl⟩
theorem tz64_6 (w : World) (hd : DB w) : Calls Tryd.prog 53 #[.int .u64 6] w fun e w' => e = .returned (.int .i64 1) ∧ w' = w := by
  have c0 := hd.c1
  have key : IntKind.u64.wrap (bits .and .u64 6 (IntKind.u64.wrap (-6)) * 285870213051353865) / 288230376151711744 = 1 := by decide +kernel
  go_enter Tryd.func53, Tryd.ntmps53
  go_wp2_with (simp only [key])
  go_ret
  exact ⟨rfl, rfl⟩
theorem tz_6 (w : World) (hd : DB w) : Calls Tryd.prog 38 #[.int .u64 6] w fun e w' => e = .returned (.int .i64 1) ∧ w' = w := by
  go_enter Tryd.func38, Tryd.ntmps38
  go_wp2_with (go_at_call 53; refine (tz64_6 _ hd).mono ?_; rintro e w' ⟨rfl, rfl⟩)
  go_ret
  exact ⟨rfl, rfl⟩
theorem tz64_7 (w : World) (hd : DB w) : Calls Tryd.prog 53 #[.int .u64 7] w fun e w' => e = .returned (.int .i64 0) ∧ w' = w := by
  have c0 := hd.c0
  have key : IntKind.u64.wrap (bits .and .u64 7 (IntKind.u64.wrap (-7)) * 285870213051353865) / 288230376151711744 = 0 := by decide +kernel
  go_enter Tryd.func53, Tryd.ntmps53
  go_wp2_with (simp only [key])
  go_ret
  exact ⟨rfl, rfl⟩
theorem tz_7 (w : World) (hd : DB w) : Calls Tryd.prog 38 #[.int .u64 7] w fun e w' => e = .returned (.int .i64 0) ∧ w' = w := by
  go_enter Tryd.func38, Tryd.ntmps38
  go_wp2_with (go_at_call 53; refine (tz64_7 _ hd).mono ?_; rintro e w' ⟨rfl, rfl⟩)
  go_ret
  exact ⟨rfl, rfl⟩
theorem tz64_8 (w : World) (hd : DB w) : Calls Tryd.prog 53 #[.int .u64 8] w fun e w' => e = .returned (.int .i64 3) ∧ w' = w := by
  have c0 := hd.c7
  have key : IntKind.u64.wrap (bits .and .u64 8 (IntKind.u64.wrap (-8)) * 285870213051353865) / 288230376151711744 = 7 := by decide +kernel
  go_enter Tryd.func53, Tryd.ntmps53
  go_wp2_with (simp only [key])
  go_ret
  exact ⟨rfl, rfl⟩
theorem tz_8 (w : World) (hd : DB w) : Calls Tryd.prog 38 #[.int .u64 8] w fun e w' => e = .returned (.int .i64 3) ∧ w' = w := by
  go_enter Tryd.func38, Tryd.ntmps38
  go_wp2_with (go_at_call 53; refine (tz64_8 _ hd).mono ?_; rintro e w' ⟨rfl, rfl⟩)
  go_ret
  exact ⟨rfl, rfl⟩
theorem tz64_9 (w : World) (hd : DB w) : Calls Tryd.prog 53 #[.int .u64 9] w fun e w' => e = .returned (.int .i64 0) ∧ w' = w := by
  have c0 := hd.c0
  have key : IntKind.u64.wrap (bits .and .u64 9 (IntKind.u64.wrap (-9)) * 285870213051353865) / 288230376151711744 = 0 := by decide +kernel
  go_enter Tryd.func53, Tryd.ntmps53
  go_wp2_with (simp only [key])
  go_ret
  exact ⟨rfl, rfl⟩
theorem tz_9 (w : World) (hd : DB w) : Calls Tryd.prog 38 #[.int .u64 9] w fun e w' => e = .returned (.int .i64 0) ∧ w' = w := by
  go_enter Tryd.func38, Tryd.ntmps38
  go_wp2_with (go_at_call 53; refine (tz64_9 _ hd).mono ?_; rintro e w' ⟨rfl, rfl⟩)
  go_ret
  exact ⟨rfl, rfl⟩
theorem tz64_10 (w : World) (hd : DB w) : Calls Tryd.prog 53 #[.int .u64 10] w fun e w' => e = .returned (.int .i64 1) ∧ w' = w := by
  have c0 := hd.c1
  have key : IntKind.u64.wrap (bits .and .u64 10 (IntKind.u64.wrap (-10)) * 285870213051353865) / 288230376151711744 = 1 := by decide +kernel
  go_enter Tryd.func53, Tryd.ntmps53
  go_wp2_with (simp only [key])
  go_ret
  exact ⟨rfl, rfl⟩
theorem tz_10 (w : World) (hd : DB w) : Calls Tryd.prog 38 #[.int .u64 10] w fun e w' => e = .returned (.int .i64 1) ∧ w' = w := by
  go_enter Tryd.func38, Tryd.ntmps38
  go_wp2_with (go_at_call 53; refine (tz64_10 _ hd).mono ?_; rintro e w' ⟨rfl, rfl⟩)
  go_ret
  exact ⟨rfl, rfl⟩
theorem tz64_11 (w : World) (hd : DB w) : Calls Tryd.prog 53 #[.int .u64 11] w fun e w' => e = .returned (.int .i64 0) ∧ w' = w := by
  have c0 := hd.c0
  have key : IntKind.u64.wrap (bits .and .u64 11 (IntKind.u64.wrap (-11)) * 285870213051353865) / 288230376151711744 = 0 := by decide +kernel
  go_enter Tryd.func53, Tryd.ntmps53
  go_wp2_with (simp only [key])
  go_ret
  exact ⟨rfl, rfl⟩
theorem tz_11 (w : World) (hd : DB w) : Calls Tryd.prog 38 #[.int .u64 11] w fun e w' => e = .returned (.int .i64 0) ∧ w' = w := by
  go_enter Tryd.func38, Tryd.ntmps38
  go_wp2_with (go_at_call 53; refine (tz64_11 _ hd).mono ?_; rintro e w' ⟨rfl, rfl⟩)
  go_ret
  exact ⟨rfl, rfl⟩
theorem tz64_12 (w : World) (hd : DB w) : Calls Tryd.prog 53 #[.int .u64 12] w fun e w' => e = .returned (.int .i64 2) ∧ w' = w := by
  have c0 := hd.c3
  have key : IntKind.u64.wrap (bits .and .u64 12 (IntKind.u64.wrap (-12)) * 285870213051353865) / 288230376151711744 = 3 := by decide +kernel
  go_enter Tryd.func53, Tryd.ntmps53
  go_wp2_with (simp only [key])
  go_ret
  exact ⟨rfl, rfl⟩
theorem tz_12 (w : World) (hd : DB w) : Calls Tryd.prog 38 #[.int .u64 12] w fun e w' => e = .returned (.int .i64 2) ∧ w' = w := by
  go_enter Tryd.func38, Tryd.ntmps38
  go_wp2_with (go_at_call 53; refine (tz64_12 _ hd).mono ?_; rintro e w' ⟨rfl, rfl⟩)
  go_ret
  exact ⟨rfl, rfl⟩
theorem tz64_13 (w : World) (hd : DB w) : Calls Tryd.prog 53 #[.int .u64 13] w fun e w' => e = .returned (.int .i64 0) ∧ w' = w := by
  have c0 := hd.c0
  have key : IntKind.u64.wrap (bits .and .u64 13 (IntKind.u64.wrap (-13)) * 285870213051353865) / 288230376151711744 = 0 := by decide +kernel
  go_enter Tryd.func53, Tryd.ntmps53
  go_wp2_with (simp only [key])
  go_ret
  exact ⟨rfl, rfl⟩
theorem tz_13 (w : World) (hd : DB w) : Calls Tryd.prog 38 #[.int .u64 13] w fun e w' => e = .returned (.int .i64 0) ∧ w' = w := by
  go_enter Tryd.func38, Tryd.ntmps38
  go_wp2_with (go_at_call 53; refine (tz64_13 _ hd).mono ?_; rintro e w' ⟨rfl, rfl⟩)
  go_ret
  exact ⟨rfl, rfl⟩
theorem tz64_14 (w : World) (hd : DB w) : Calls Tryd.prog 53 #[.int .u64 14] w fun e w' => e = .returned (.int .i64 1) ∧ w' = w := by
  have c0 := hd.c1
  have key : IntKind.u64.wrap (bits .and .u64 14 (IntKind.u64.wrap (-14)) * 285870213051353865) / 288230376151711744 = 1 := by decide +kernel
  go_enter Tryd.func53, Tryd.ntmps53
  go_wp2_with (simp only [key])
  go_ret
  exact ⟨rfl, rfl⟩
theorem tz_14 (w : World) (hd : DB w) : Calls Tryd.prog 38 #[.int .u64 14] w fun e w' => e = .returned (.int .i64 1) ∧ w' = w := by
  go_enter Tryd.func38, Tryd.ntmps38
  go_wp2_with (go_at_call 53; refine (tz64_14 _ hd).mono ?_; rintro e w' ⟨rfl, rfl⟩)
  go_ret
  exact ⟨rfl, rfl⟩
theorem tz64_15 (w : World) (hd : DB w) : Calls Tryd.prog 53 #[.int .u64 15] w fun e w' => e = .returned (.int .i64 0) ∧ w' = w := by
  have c0 := hd.c0
  have key : IntKind.u64.wrap (bits .and .u64 15 (IntKind.u64.wrap (-15)) * 285870213051353865) / 288230376151711744 = 0 := by decide +kernel
  go_enter Tryd.func53, Tryd.ntmps53
  go_wp2_with (simp only [key])
  go_ret
  exact ⟨rfl, rfl⟩
theorem tz_15 (w : World) (hd : DB w) : Calls Tryd.prog 38 #[.int .u64 15] w fun e w' => e = .returned (.int .i64 0) ∧ w' = w := by
  go_enter Tryd.func38, Tryd.ntmps38
  go_wp2_with (go_at_call 53; refine (tz64_15 _ hd).mono ?_; rintro e w' ⟨rfl, rfl⟩)
  go_ret
  exact ⟨rfl, rfl⟩
theorem tz_any (w : World) (hd : DB w) : ∀ (r : Nat), r ≠ 0 → r < 16 → Calls Tryd.prog 38 #[.int .u64 (r : Int)] w fun e w' => e = .returned (.int .i64 (ctz r : Nat)) ∧ w' = w
  | 0, h, _ => absurd rfl h
  | 1, _, _ => tz_1 w hd
  | 2, _, _ => tz_2 w hd
  | 3, _, _ => tz_3 w hd
  | 4, _, _ => tz_4 w hd
  | 5, _, _ => tz_5 w hd
  | 6, _, _ => tz_6 w hd
  | 7, _, _ => tz_7 w hd
  | 8, _, _ => tz_8 w hd
  | 9, _, _ => tz_9 w hd
  | 10, _, _ => tz_10 w hd
  | 11, _, _ => tz_11 w hd
  | 12, _, _ => tz_12 w hd
  | 13, _, _ => tz_13 w hd
  | 14, _, _ => tz_14 w hd
  | 15, _, _ => tz_15 w hd
  | r + 16, _, h => absurd h (by omega)
end Tr
namespace TrZ
open Go Go.ChangeShapes Go.WideShapes Go.ChangeAt Go.RowKit
theorem gN : Tryd.prog.globalNamed "math/bits.deBruijn64tab" = some 1 := by kernel_rfl
theorem gT : (Tryd.prog.globals[1]?).map (·.type) = some 105 := by kernel_rfl
theorem c1 : Tryd.prog.cellsOf 5 = 1 := by kernel_rfl
theorem c2 : Tryd.prog.cellsOf 105 = 64 := by kernel_rfl
/-- the listed tables -/
abbrev lst : List (String × DataW Unit) := [("math/bits.deBruijn32tab", Rows.laid_math_bits_deBruijn32tab), ("math/bits.deBruijn64tab", Rows.laid_math_bits_deBruijn64tab)]
theorem door_met (os : Os) (args : Array Value) : laidMetH Tryd.prog lst ((World.doorLaid Tryd.prog 19 os).forCall (fun _ _ => 0) ⟨#[], args, []⟩).memory :=
  laidMetH_of_parts3 (fuel := 8) (laidMet_of_run' 8 (by kernel_rfl) (by kernel_rfl)) (by kernel_rfl) (by kernel_rfl)
def tab : List Int := [0, 1, 56, 2, 57, 49, 28, 3, 61, 58, 42, 50, 38, 29, 17, 4, 62, 47, 59, 36, 45, 43, 51, 22, 53, 39, 33, 30, 24, 18, 12, 5, 63, 55, 48, 27, 60, 41, 37, 16, 46, 35, 44, 21, 52, 32, 23, 11, 54, 26, 40, 15, 34, 20, 31, 10, 25, 14, 19, 9, 13, 8, 7, 6]
theorem of_laid {W : World} (h : laidMetH Tryd.prog lst W) : Tr.DB W := by
  rw [MakeChecks.laidMetH_plain _ _ _ (by kernel_rfl)] at h
  have hT : Lib.TabIs Tryd.prog W "math/bits.deBruijn64tab" .u8 tab := Lib.tabIs_of_head gN gT Tryd.underlying105 Tryd.underlying5 c1 c2 (show laidMet Tryd.prog [("math/bits.deBruijn64tab", Lib.tabData .u8 tab)] W from h.tail)
  exact ⟨hT.cell gN 0 (by decide), hT.cell gN 1 (by decide), hT.cell gN 3 (by decide), hT.cell gN 7 (by decide)⟩
end TrZ
namespace Set
open Go.ChangeShapes Go.WideShapes Go.ChangeAt Go.RowKit
open Go.Proofs.YtkccepdifgldeaaDoor
theorem ret_int {k : IntKind} {a b : Int} (h : a = b) : Ending.returned (.int k a) = .returned (.int k b) := by rw [h]
theorem eight {p : Int} (h : 0 ≤ p) (h' : p < 8) : p = 0 ∨ p = 1 ∨ p = 2 ∨ p = 3 ∨ p = 4 ∨ p = 5 ∨ p = 6 ∨ p = 7 := by omega
theorem bit_any (p : Int) (w : World) : Calls Tryd.prog 41 #[.int .i64 p] w fun e w' => e = .returned (.int .i64 (SetM.bit p)) ∧ w = w' := by
  by_cases h1 : p < 0
  · have HB := Lib.hid (SetM.bit_out (p := p) (by omega))
    go_enter Tryd.func41, Tryd.ntmps41
    go_wp2
    go_ret
    exact ⟨ret_int (by rw [HB.out]; rfl), rfl⟩
  by_cases h2 : 8 ≤ p
  · have HB := Lib.hid (SetM.bit_out (p := p) (by omega))
    go_enter Tryd.func41, Tryd.ntmps41
    go_wp2
    go_ret
    exact ⟨ret_int (by rw [HB.out]; rfl), rfl⟩
  rcases eight (p := p) (by omega) (by omega) with rfl | rfl | rfl | rfl | rfl | rfl | rfl | rfl
  all_goals
    clear h1 h2
    go_enter Tryd.func41, Tryd.ntmps41
    go_wp2
    go_ret
    exact ⟨ret_int (by decide), rfl⟩
theorem with_any (s p : Int) (w : World) : Calls Tryd.prog 25 #[.int .i64 s, .int .i64 p] w fun e w' => e = .returned (.int .i64 (SetM.withN s p)) ∧ w = w' := by
  have HB := Lib.hid (SetM.with_bits s p)
  go_enter Tryd.func25, Tryd.ntmps25
  go_wp2_with (go_at_call 41; refine (bit_any _ _).mono ?_; rintro e w' ⟨rfl, rfl⟩)
  go_ret
  exact ⟨ret_int HB.out, rfl⟩
/-! the document's own answer -/
end Set
namespace Rg
open Go Go.ChangeShapes Go.WideShapes Go.ChangeAt Go.RowKit
open Tab Flat TabArg QL Ru PlanM
open ChkM (cfAt)
open Clear (phAt)
open PlaceM (where_ spots Spt)
open May (infoP)
theorem cellsR : Tryd.prog.cellsOf 40 = 12 := by kernel_rfl
theorem rowR : Flat.rowT Tryd.prog 40 = true := by kernel_rfl
theorem infoRz : ∃ i, Tryd.prog.info? 40 = some i ∧ i.size = 12 := by
  have h : (Tryd.prog.info? 40).map (·.size) = some 12 := infoRu
  cases e : Tryd.prog.info? 40 with
  | none => rw [e] at h; cases h
  | some i => rw [e] at h; exact ⟨i, rfl, Option.some.inj h⟩
theorem ret_int {k : IntKind} {a b : Int} (h : a = b) : Ending.returned (.int k a) = .returned (.int k b) := by rw [h]
theorem idx_run {l : List Ru} {q : Nat} {u : Ru} (hl : l.length = 8) (hu : l[q]? = some u) (w : World) :
    Sem.run Tryd.prog (Instr.index 41 (.agg (runsC l).toArray) (.int .i64 q)) w = .ok (.agg u.cells.toArray) w := by
  have hq : q < l.length := (List.getElem?_eq_some_iff.1 hu).1
  obtain ⟨i, hi, hs⟩ := infoRz
  have hp := Flat.run_part (P := Tryd.prog) w (t := 40) (d := _) Tryd.underlying40 (by rw [rowR]; simp) (runsC l) (q * 12) (by rw [cellsR, runs_len]; omega)
  rw [cellsR, Flat.vOf, if_pos rowR, runs_take hu] at hp
  unfold Instr.index
  have hc : 0 ≤ (q : Int) ∧ (q : Int) < 8 := by omega
  simp [run_underlying Tryd.underlying41, asIntOf]
  rw [if_pos (by omega)]
  first | exact hp | (rw [cellsR]; exact hp)
end Rg
namespace Rg
open Go Go.ChangeShapes Go.WideShapes Go.ChangeAt Go.RowKit
open Tab Flat TabArg QL Ru PlanM
open ChkM (cfAt)
open Clear (phAt)
open PlaceM (where_ spots Spt)
open May (infoP)
theorem okWide_arr {P : Program} {w : World} {r : Reach} {base : Nat} {t : TypeId} {v : Value} {n : Nat} {e : TypeId} (ht : P.underlying t = some (.array n e)) (h : Value.okWide P w r base t v) : ∃ cs, v = .agg cs ∧ cs.size = P.cellsOf t := by
  simp only [Value.okWide, ht] at h
  obtain ⟨cs, h1, h2, _⟩ := h
  exact ⟨cs, h1, h2⟩
section
variable {H : Type} {enc : TypeId × Value → H} {P : Program} {w : World} {base : Nat} {spare : Nat → Bool} {held : Bool}
theorem all2_split {α β : Type} {R : α → β → Prop} : ∀ {l m : List α} {cs : List β}, All2 R (l ++ m) cs → ∃ a b, cs = a ++ b ∧ All2 R l a ∧ All2 R m b
  | [], m, cs, h => ⟨[], cs, rfl, trivial, h⟩
  | x :: l, m, [], h => h.elim
  | x :: l, m, c :: cs, h => by
    obtain ⟨a, b, rfl, h1, h2⟩ := all2_split (l := l) h.2
    exact ⟨c :: a, b, rfl, ⟨h.1, h1⟩, h2⟩
def ruT : List TypeId := [3, 3, 3, 3, 3, 3, 3, 4, 4, 3, 3, 3]
def rusT : Nat → List TypeId
  | 0 => []
  | n + 1 => ruT ++ rusT n
theorem flRs : flat Tryd.prog 5 41 = some (rusT 8) := by kernel_rfl
theorem rus_el : ∀ (n : Nat) {cs : List Value}, All2 (Tr enc Tryd.prog w base spare held) (rusT n) cs → ∃ rs : List Ru, rs.length = n ∧ cs = runsC rs
  | 0, [], _ => ⟨[], rfl, rfl⟩
  | n + 1, cs, h => by
    obtain ⟨a, b, rfl, h1, h2⟩ := all2_split h
    obtain ⟨r, rfl⟩ := ru_el h1
    obtain ⟨rs, hl, rfl⟩ := rus_el n h2
    exact ⟨r :: rs, by simp [hl], rfl⟩
end
end Rg
namespace Tr
attribute [local go_sem] Oper.semAt_some
open Go Go.ChangeShapes Go.WideShapes Go.ChangeAt Go.RowKit
open Tab Flat TabArg QL Ru Rg PlanM
theorem flRid : flat Tryd.prog 4 34 = some [3, 3, 3, 3, 3, 3] := by kernel_rfl
section
variable {H : Type} {enc : TypeId × Value → H} {P : Program} {w : World} {base : Nat} {spare : Nat → Bool} {held : Bool}
theorem rid_el : ∀ {cs : List Value}, All2 (Tr enc Tryd.prog w base spare held) [3, 3, 3, 3, 3, 3] cs → ∃ d : Rid, cs = d.cells
  | [_, _, _, _, _, _], ⟨h0, h1, h2, h3, h4, h5, _⟩ => by
    obtain ⟨v0, rfl⟩ := tr_int Tryd.underlying3 h0
    obtain ⟨v1, rfl⟩ := tr_int Tryd.underlying3 h1
    obtain ⟨v2, rfl⟩ := tr_int Tryd.underlying3 h2
    obtain ⟨v3, rfl⟩ := tr_int Tryd.underlying3 h3
    obtain ⟨v4, rfl⟩ := tr_int Tryd.underlying3 h4
    obtain ⟨v5, rfl⟩ := tr_int Tryd.underlying3 h5
    exact ⟨⟨v0, v1, v2, v3, v4, v5⟩, rfl⟩
end
end Tr
namespace SetP
open Go.ChangeShapes Go.WideShapes Go.ChangeAt Go.RowKit
open Go.Proofs.YtkccepdifgldeaaDoor
theorem ret_int {k : IntKind} {a b : Int} (h : a = b) : Ending.returned (.int k a) = .returned (.int k b) := by rw [h]
theorem ret_bool {a b : Bool} (h : a = b) : Ending.returned (.bool a) = .returned (.bool b) := by rw [h]
theorem eight {p : Int} (h : 0 ≤ p) (h' : p < 8) : p = 0 ∨ p = 1 ∨ p = 2 ∨ p = 3 ∨ p = 4 ∨ p = 5 ∨ p = 6 ∨ p = 7 := by omega
theorem bit_any (p : Int) (w : World) : Calls Tryd.prog 41 #[.int .i64 p] w fun e w' => e = .returned (.int .i64 (SetM.bit p)) ∧ w = w' := by
  by_cases h1 : p < 0
  · have HB := Lib.hid (SetM.bit_out (p := p) (by omega))
    go_enter Tryd.func41, Tryd.ntmps41
    go_wp2
    go_ret
    exact ⟨ret_int (by rw [HB.out]; rfl), rfl⟩
  by_cases h2 : 8 ≤ p
  · have HB := Lib.hid (SetM.bit_out (p := p) (by omega))
    go_enter Tryd.func41, Tryd.ntmps41
    go_wp2
    go_ret
    exact ⟨ret_int (by rw [HB.out]; rfl), rfl⟩
  rcases eight (p := p) (by omega) (by omega) with rfl | rfl | rfl | rfl | rfl | rfl | rfl | rfl
  all_goals
    clear h1 h2
    go_enter Tryd.func41, Tryd.ntmps41
    go_wp2
    go_ret
    exact ⟨ret_int (by decide), rfl⟩
theorem ne_has (s p : Int) : (bits .and .i64 s (SetM.bit p) != 0) = SetM.has s p := by
  have h := SetM.has_and s p
  cases hb : SetM.has s p
  · rw [h.2 hb]; rfl
  · rw [bne_iff_ne]; intro e; rw [h.1 e] at hb; cases hb
theorem has_any (s p : Int) (w : World) : Calls Tryd.prog 40 #[.int .i64 s, .int .i64 p] w fun e w' => e = .returned (.bool (SetM.has s p)) ∧ w = w' := by
  have HB := Lib.hid (ne_has s p)
  go_enter Tryd.func40, Tryd.ntmps40
  go_wp2_with (go_at_call 41; refine (bit_any _ _).mono ?_; rintro e w' ⟨rfl, rfl⟩)
  go_ret
  exact ⟨ret_bool HB.out, rfl⟩
end SetP
namespace Pw
open Go Go.RowKit
open Tab
structure W (P : Program) (ops : Array Oper) (D : Nat → World → Prop) (cs : List Nat) (Q : Act → Prop) (k : Nat) (l : List Oper) (a : Act) : Prop where
  out : Ph.wpPh P ops D cs Q k l a
section
variable {P : Program} {D : Nat → World → Prop} {ns : List Nat} {ops : Array Oper} {Q : Act → Prop} {k : Nat} {a : Act} {o : Oper} {rest : List Oper}
theorem region {id : Nat} {Q : Exit → Act → World → Prop} {a : Act} {w : World} {l : List Oper} (D : Nat → World → Prop) (cs : List Nat) (hm : P.follows .mixedOrders = true) (hB : Ph.okB .any l.toArray cs = true) (hD : D 0 w.drew)
    (h : W P l.toArray D cs (fun a' => ∀ w', D cs.length w' → Q .normal a' w') 0 l a) : (Code.region id l.toArray true).wp P Q a w := Ph.wp_region_ph D cs hm hB hD h.out
end
end Pw
namespace Up
open Go Go.RowKit
def noDefer (l : List Oper) : Bool := l.all fun o => match o.op with | .defer _ => false | _ => true
theorem not_defer {l : List Oper} (h : noDefer l = true) {o : Oper} (ho : o ∈ l) : ∀ c, o.op ≠ .defer c := by
  intro c e
  have := List.all_eq_true.1 h o ho
  rw [e] at this
  cases this
section
variable {P : Program} {l n : Nat} {Q : Exit → Act → World → Prop}
theorem op_up {o : Oper} {a : Act} {w : World} {K K' : Act → World → Prop} (hn : ∀ a w, K a w → K' a w) (hd : ∀ c, o.op ≠ .defer c) (h : o.wp P a w K Q) : o.wpIn (Fence.wide.inRound l) n P a w K' Q := by
  refine ⟨fun _ _ => trivial, ?_⟩
  rw [show (Fence.wide.inRound l).round = some l from rfl, Oper.semAt_some l _ _ hd]
  unfold Oper.wp at h
  generalize (execOp a.eval o).run P w = r at h
  cases r with
  | ok nx w' =>
    cases nx with
    | value v => exact hn _ _ h
    | skip => exact hn _ _ h
    | defer d => exact hn _ _ h
    | enter f args =>
      refine ⟨fun h => (by cases h), CallsIn.inRound l (callsIn_wide.2 (Calls.mono h ?_))⟩
      intro e w'' he
      cases e with
      | returned v => exact hn _ _ he
      | panicked c => exact he
      | outgrown => exact he
    | row row args => exact ⟨fun h => (by cases h), fun c cs _ => let ⟨v, w', r, s⟩ := h c cs; ⟨v, w', hn _ _ r, stepsIn_wide.2 s⟩⟩
    | _ => exact h.elim
  | halt e w' =>
    cases e with
    | panic v => exact h
    | _ => exact h.elim
theorem list_up (hQ : ¬ LetsOut Q) {ops : Array Oper} : ∀ (m : List Oper) (a : Act) (w : World), noDefer m = true → wpList P ops Q m a w → wpListIn (Fence.wide.inRound l) n P ops Q m a w
  | [], a, w, _, h => h
  | o :: rest, a, w, hd, h => by
    have hr : noDefer rest = true := by unfold noDefer at hd ⊢; rw [List.all_cons, Bool.and_eq_true] at hd; exact hd.2
    unfold wpList at h
    unfold wpListIn
    split at h
    · rename_i hw
      rw [if_pos hw]
      rcases h with h | h
      · exact op_up (fun a w h => list_up hQ rest a w hr h) (not_defer hd (List.mem_cons_self ..)) h
      · exact absurd h.2 hQ
    · rename_i hw
      rw [if_neg hw]
      exact ⟨fun _ _ => trivial, list_up hQ rest _ _ hr h⟩
theorem any_up (hQ : ¬ LetsOut Q) {md : Region.Mode} {ops : Array Oper} (hd : noDefer ops.toList = true) : ∀ (fuel : Nat) (listed : Array Bool) (a : Act) (w : World), wpAny P md ops Q fuel listed a w → wpAnyIn (Fence.wide.inRound l) n P md ops Q fuel listed a w
  | 0, _, _, _, h => h
  | fuel + 1, listed, a, w, h => by
    refine ⟨h.1, fun i hi => ?_⟩
    have h1 := h.2 i hi
    unfold wpOp at h1
    unfold wpOpIn
    cases ho : ops[i]? with
    | none => rw [ho] at h1; exact any_up hQ hd fuel _ _ _ h1
    | some o =>
      rw [ho] at h1
      have hm : o ∈ ops.toList := List.mem_of_getElem? (by rw [Array.getElem?_toList]; exact ho)
      dsimp only at h1 ⊢
      split at h1
      · rename_i hw
        rw [if_pos hw]
        rcases h1 with h1 | h1
        · exact op_up (fun a w h => any_up hQ hd fuel _ a w h) (not_defer hd hm) h1
        · exact absurd h1.2 hQ
      · rename_i hw
        rw [if_neg hw]
        exact ⟨fun _ _ => trivial, any_up hQ hd fuel _ _ _ h1⟩
/-- A region that does not draw, in a round, by the plain walk. -/
theorem region_list {id : Nat} {m : List Oper} {a : Act} {w : World} (hQ : ¬ LetsOut Q) (hd : noDefer m = true) (h : wpList P m.toArray Q m a w) : (Code.region id m.toArray false).wpIn (Fence.wide.inRound l) n P Q a w :=
  wpIn_region_lit (list_up hQ m a w hd h)
end
end Up
namespace Each
open Go.RowKit Go.Shelf
open Go.Proofs.YtkccepdifgldeaaDoor
attribute [local go_sem] Oper.semAt_some
/-- The block B lies as it lay. -/
def Kept (B : Nat) (W W' : World) : Prop := W'.heap[B]? = W.heap[B]?
theorem Kept.refl (B : Nat) (W : World) : Kept B W W := rfl
theorem Kept.trans {B : Nat} {A C D : World} (h : Kept B A C) (k : Kept B C D) : Kept B A D := Eq.trans k h
theorem Kept.cell {B o : Nat} {A C : World} (h : Kept B A C) : C.cell? ⟨B, o, none⟩ = A.cell? ⟨B, o, none⟩ := by
  simp only [World.cell?, show C.heap[B]? = A.heap[B]? from h]
theorem Kept.below {n₀ B : Nat} {A C : World} (h : Below n₀ A C) (hB : B < n₀) : Kept B A C := h.block B hB
theorem Kept.setCell {B b o : Nat} (W : World) (v : Value) (h : B ≠ b) : Kept B W (W.setCell ⟨b, o, none⟩ v) := Below.heap_setCell _ _ _ B h
theorem kept_b {B : Nat} {w : World} (hB : B < w.heap.size) (W : World) (l : Nat) (o o' : Obj) (hl : w.heap.size ≤ l) (_ : W.heap[l]? = some o) (_ : o.isCells = false) (_ : o.isWalk = false) : Kept B W (W.putObj l o') :=
  World.putObj_heap_other (by omega)
/-- The iterator itself: for every loop body. -/
theorem each1_in (n : Nat) (hn : 1 ≤ n) (l Bs : Nat) (s : Int) (J Jx : List Int → World → Prop)
    (hY : ∀ pre (x : Int) W, J pre W → pre ++ [x] <+: SetM.list s → YieldAt Fence.wide (n - 1) Tryd.prog l #[.int .i64 x] W fun e W' =>
      (e = .returned (.bool true) ∧ J (pre ++ [x]) W' ∧ Kept Bs W W') ∨ (e = .returned (.bool false) ∧ Jx (pre ++ [x]) W'))
    (W : World) (hc : W.cell? ⟨Bs, 0, none⟩ = some (.int .i64 s)) (h0 : J [] W) :
    CallsIn Fence.wide n Tryd.prog 39 #[.func (.yield l) #[] #[], .pointer (some ⟨Bs, 0, none⟩)] W fun e W' => (∃ v, e = .returned v) ∧
      ((∃ ys, ys = SetM.list s ∧ J ys W') ∨ (∃ pre, pre <+: SetM.list s ∧ Jx pre W')) := by
  refine callsIn_of_wp Tryd.func39 rfl trivial ?_ rfl
  simp only [Tryd.ntmps39, List.size_toArray, List.length_cons, List.length_nil, Nat.reduceAdd, Nat.reduceSub, Array.replicate_succ, Array.replicate_zero, List.push_toArray, List.append_toArray, List.nil_append, List.cons_append]
  gi_wp2
  gi_loopw [4] (fun i wr => ∃ k : Nat, k ≤ 8 ∧ i = .int .i64 k ∧ J (SetM.upto s k) wr ∧ Kept Bs W wr)
    (fun i _ => 8 - (intOf i).toNat)
  case atStart => exact ⟨0, Nat.zero_le _, rfl, h0, Kept.refl _ _⟩
  case round =>
    obtain ⟨k, hk, rfl, hJs, hnx⟩ := hrel
    have hcx := (hnx.cell (o := 0)).trans hc
    by_cases hlt : k < 8
    · by_cases hh : SetM.has s k = true
      · obtain ⟨fn, tmps, assign, body, hy, hR⟩ := hY _ (k : Int) wr hJs (by rw [← SetM.upto_hit s k hh]; exact SetM.upto_list s (k + 1) (by omega))
        have Hs := Lib.hid (SetM.upto_hit s k hh)
        have Hp := Lib.hid (SetM.upto_list s (k + 1) (by omega))
        gi_wp2_with (refine ⟨trivial, ?_⟩; gi_at_call 40; refine (callsIn_wide.2 (SetP.has_any _ _ _)).mono ?_; rintro e w' ⟨rfl, rfl⟩; rw [hh])
        refine hR.mono ?_
        rintro e W3 (⟨rfl, hJ3, hk3⟩ | ⟨rfl, hJx3⟩)
        · gi_wp2
          go_roundw
          case rel => exact ⟨k + 1, by omega, by go_num, by rw [Hs.out]; exact hJ3, hnx.trans hk3⟩
          case measure => simp [intOf]; omega
        · gi_wp2
          refine bodyPost_ret (results_none rfl _ _ _) rfl ?_
          exact ⟨⟨_, rfl⟩, .inr ⟨_, by rw [← Hs.out]; exact Hp.out, hJx3⟩⟩
      · have hh' : SetM.has s k = false := by simpa using hh
        have Hs := Lib.hid (SetM.upto_miss s k hh')
        clear hh
        gi_wp2_with (refine ⟨trivial, ?_⟩; gi_at_call 40; refine (callsIn_wide.2 (SetP.has_any _ _ _)).mono ?_; rintro e w' ⟨rfl, rfl⟩; rw [hh'])
        refine ⟨fun _ h => (by cases h), ?_⟩
        gi_wp2
        go_roundw
        case rel => exact ⟨k + 1, by omega, by go_num, by rw [Hs.out]; exact hJs, hnx⟩
        case measure => simp [intOf]; omega
    · obtain rfl : k = 8 := by omega
      gi_wp2
      go_end0
      exact ⟨⟨_, rfl⟩, .inl ⟨_, rfl, hJs⟩⟩
/-- set.Each(s): the set is boxed; the function value captures the box. -/
theorem each_in (n : Nat) (s : Int) (w : World) :
    CallsIn Fence.wide n Tryd.prog 23 #[.int .i64 s] w fun e w' => e = .returned (.func (.func 39) #[] #[.pointer (some ⟨w.heap.size, 0, none⟩)]) ∧ w' = w.alloc (.cells #[.int .i64 s] 3) := by
  refine callsIn_of_wp Tryd.func23 rfl trivial ?_ rfl
  simp only [Tryd.ntmps23, List.size_toArray, List.length_cons, List.length_nil, Nat.reduceAdd, Nat.reduceSub, Array.replicate_succ, Array.replicate_zero, List.push_toArray, List.append_toArray, List.nil_append, List.cons_append]
  gi_wp2
  go_ret
  exact ⟨rfl, rfl⟩
/-- What the body is handed: a member of the set. -/
abbrev Mem (s : Int) := { x : Int // x ∈ SetM.list s }
/-- The value that set.Each hands back: the phases of s, in order; or the first of them, where a round has said 'no more'. -/
theorem each_mem (n : Nat) (hn : 1 ≤ n) (Bs : Nat) (s : Int) (w : World) (hBs : Bs < w.heap.size) (hc : w.cell? ⟨Bs, 0, none⟩ = some (.int .i64 s)) :
    SeqStopsK Fence.wide n Tryd.prog 39 #[.pointer (some ⟨Bs, 0, none⟩)] (fun x : Mem s => #[Value.int .i64 x.1]) (Kept Bs) (fun ys => ys.map Subtype.val = SetM.list s) (fun pre => pre.map Subtype.val <+: SetM.list s) (SetM.list s).length w := fun l J Jx W hW _ _ hY h0 => by
  refine (each1_in n hn l Bs s (fun pre W => ∃ m : List (Mem s), m.map Subtype.val = pre ∧ J m W) (fun pre W => ∃ m : List (Mem s), m.map Subtype.val = pre ∧ Jx m W) ?_ W ((hW.cell (p := ⟨Bs, 0, none⟩) hBs).trans hc) ⟨[], rfl, h0⟩).mono ?_
  · rintro pre x W1 ⟨m, rfl, hJ⟩ hp
    have hx : x ∈ SetM.list s := hp.subset (by simp)
    have hl : m.length < (SetM.list s).length := by have := hp.length_le; simp at this; omega
    obtain ⟨fn, tmps, assign, body, hy, hR⟩ := hY m ⟨x, hx⟩ W1 hJ hl
    refine ⟨fn, tmps, assign, body, hy, hR.mono ?_⟩
    rintro e W' (⟨h1, h2, h3⟩ | ⟨h1, h2⟩)
    · exact .inl ⟨h1, ⟨_, by simp, h2⟩, h3⟩
    · exact .inr ⟨h1, ⟨_, by simp, h2⟩⟩
  · rintro e W' ⟨hv, h⟩
    refine ⟨hv, ?_⟩
    rcases h with ⟨ys, rfl, m, hm, hJ⟩ | ⟨pre, hp, m, rfl, hJ⟩
    · exact .inl ⟨m, hm, hJ⟩
    · exact .inr ⟨m, hp, hJ⟩
end Each
namespace Search
open Go.RowKit Go.Shelf
open Each
/-- How a round of a search is left: it goes on, nothing that lay has turned; or it returns, and has written the block R. -/
def post (R : Nat) (o : Int → Obj) (bad : Int → Bool) (x : Int) (W : World) : Exit → Act → World → Prop
  | .normal, _, W' => bad x = false ∧ Below W.heap.size W W'
  | .ret, _, W' => bad x = true ∧ W.grownBy W' (some R) ∧ W'.heap[R]? = some (o x)
  | _, _, _ => False
theorem keeps_below {B : Nat} {W W' : World} (h : Below W.heap.size W W') : KeepsFrom B W W' := ⟨h.size, fun k o _ hk _ => (h.block k (Array.getElem?_eq_some_iff.1 hk).1).trans hk⟩
theorem grown_of_below {W W' : World} {row : Option Nat} (h : Below W.heap.size W W') : W.grownBy W' row := ⟨h.os, h.tape, h.output, h.size, fun j hj _ => h.block j hj⟩
theorem grown_trans {A B C : World} {R : Nat} (h : A.grownBy B (some R)) (k : B.grownBy C (some R)) : A.grownBy C (some R) :=
  ⟨k.os.trans h.os, k.tape.trans h.tape, k.output.trans h.output, Nat.le_trans h.size k.size, fun j hj hne => (k.block j (Nat.lt_of_lt_of_le hj h.size) hne).trans (h.block j hj hne)⟩
theorem grown_from {A B C : World} {R : Nat} {row : Option Nat} (h : A.grownBy B (some R)) (k : B.grownBy C row) (hr : ∀ r, row = some r → A.heap.size ≤ r) : A.grownBy C (some R) :=
  ⟨k.os.trans h.os, k.tape.trans h.tape, k.output.trans h.output, Nat.le_trans h.size k.size, fun j hj hne => (k.block j (Nat.lt_of_lt_of_le hj h.size) (fun e => by have := hr j e.symm; omega)).trans (h.block j hj hne)⟩
theorem find_pre {f : Int → Bool} {l p : List Int} {x : Int} (hp : p ++ [x] <+: l) (hn : ∀ y ∈ p, f y = false) (hx : f x = true) : l.find? f = some x := by
  obtain ⟨t, rfl⟩ := hp
  rw [List.append_assoc, List.find?_append, List.find?_eq_none.2 (fun y hy => by simp [hn y hy])]
  simp [hx]
theorem search {n : Nat} {g : Operand} {ps : Array Tmp} {assign body : Code} {Q : Exit → Act → World → Prop} {a : Act} {W0 : World} (bad : Int → Bool) (o : Int → Obj) (Bs R : Nat) (s : Int)
    (hn : 3 ≤ n) (hg : a.eval g = .func (.func 39) #[] #[.pointer (some ⟨Bs, 0, none⟩)]) (hps : ps.size = 1) (hBs : Bs < W0.heap.size) (hR : R < W0.heap.size) (hc : W0.cell? ⟨Bs, 0, none⟩ = some (.int .i64 s)) (a₁ : Int → Act)
    (hassign : ∀ (l : Nat) (x : Int) (W : World) (K : Act → World → Prop), K (a₁ x) W → assign.wpIn (Fence.wide.inRound l) (n - 1 - 1) Tryd.prog (Exit.then K (fun _ _ _ => False)) { tmps := (ps.zip #[Value.int .i64 x]).foldl (fun t (p, v) => t.setIfInBounds p v) a.tmps, defers := [] } W)
    (hbody : ∀ (l : Nat) (x : Int) (W : World), x ∈ SetM.list s → Below W0.heap.size W0 W → body.wpIn (Fence.wide.inRound l) (n - 1 - 1) Tryd.prog (post R o bad x W) (a₁ x) W)
    (hdone : ∀ (D : Nat) (W : World), W0.heap.size ≤ D → (∀ x ∈ SetM.list s, bad x = false) → Below W0.heap.size W0 W → W.heap[D]? = some (.deferred (some [])) → Q .normal { a with defers := { target := .collected D, args := #[] } :: a.defers } W)
    (hstop : ∀ (D : Nat) (x : Int) (W : World), W0.heap.size ≤ D → (SetM.list s).find? bad = some x → bad x = true → W0.grownBy W (some R) → W.heap[R]? = some (o x) → W.heap[D]? = some (.deferred (some [])) → Code.ret.wpIn Fence.wide n Tryd.prog Q { a with defers := { target := .collected D, args := #[] } :: a.defers } W) :
    (Code.rangeFunc g ps assign body).wpIn Fence.wide n Tryd.prog Q a W0 := by
  refine wpIn_rangeFunc_ownG rfl (by omega) (gf := 39) (lb := #[.pointer (some ⟨Bs, 0, none⟩)]) hg trivial (enters_of Tryd.func39 (by kernel_rfl) rfl)
    (each_mem _ (by omega) Bs s W0 hBs hc) Kept.trans (kept_b hBs) (Below.refl _ _) (fun _ => hps.symm)
    (fun pre W => (∀ y ∈ pre, bad y.1 = false) ∧ Below W0.heap.size W0 W)
    (fun c pre W => (c = .ret ∧ ∃ p0 x, pre = p0 ++ [x] ∧ (∀ y ∈ p0, bad y.1 = false) ∧ bad x.1 = true ∧ W.heap[R]? = some (o x.1)) ∧ W0.grownBy W (some R))
    (OwnFrom.and (ownFrom_pure _ _) (ownFrom_below (Nat.le_refl _) (Nat.le_refl _)))
    ?own ⟨by simp, Below.refl _ _⟩ (fun x => a₁ x.1) (fun l x W K h => hassign l x.1 W K h) ?body ?done ?stop
  case own =>
    rintro c pre W W' row ⟨⟨h1, p0, x, h2, h3, h4, h5⟩, hg⟩ hgr hr
    have hlt : R < W.heap.size := (Array.getElem?_eq_some_iff.1 h5).1
    exact ⟨⟨h1, p0, x, h2, h3, h4, (hgr.block R hlt (fun e => by have := (hr R e.symm).1; omega)).trans h5⟩, grown_from hg hgr (fun r e => (hr r e).1)⟩
  case body =>
    rintro l pre x W ⟨hp, hB⟩ _
    refine wpIn_mono (hbody l x.1 W x.2 hB) ?_
    intro e a' W' h
    cases e with
    | normal =>
      obtain ⟨h1, h2⟩ := h
      refine ⟨keeps_below h2, Kept.below h2 (by have := hB.size; omega), ?_, hB.trans (h2.mono hB.size)⟩
      intro y hy
      rcases List.mem_append.1 hy with hy | hy
      · exact hp y hy
      · obtain rfl : y = x := by simpa using hy
        exact h1
    | ret =>
      obtain ⟨h1, h2, h3⟩ := h
      exact ⟨KeepsFrom.of_grownBy h2 (fun j e => by cases e; exact hR), ⟨rfl, pre, x, rfl, hp, h1, h3⟩, grown_trans (grown_of_below (hB.mono (Nat.le_refl _))) h2⟩
    | _ => exact h.elim
  case done =>
    rintro D xs W hD hS ⟨hp, hB⟩ hK
    refine hdone D W hD ?_ hB hK
    rw [← hS]
    intro x hx
    obtain ⟨y, hy, rfl⟩ := List.mem_map.1 hx
    exact hp y hy
  case stop =>
    rintro D c pre W hD hS ⟨⟨rfl, p0, x, rfl, h3, h4, h5⟩, hg⟩ hK
    refine hstop D x.1 W hD (find_pre (p := p0.map Subtype.val) (by simpa using hS) ?_ h4) h4 hg h5 hK
    intro y hy
    obtain ⟨z, hz, rfl⟩ := List.mem_map.1 hy
    exact h3 z hz
end Search
namespace Up
open Go Go.RowKit
section
variable {P : Program} {l n : Nat} {Q : Exit → Act → World → Prop}
/-- A region that draws and whose calls may make memory, in a round. -/
theorem region_below {id : Nat} {a : Act} {w : World} {m : List Oper} (B : Nat) (hQ : ¬ LetsOut Q) (hd : noDefer m = true) (hm : P.follows .mixedOrders = true) (hB : Region.lexB .any m.toArray = true)
    (h : wpQuiet P m.toArray (fun w' => ∃ p : QB.By B w, w' = p.world) (fun a' => ∀ w', (∃ p : QB.By B w, w' = p.world) → Q .normal a' w') m a) : (Code.region id m.toArray true).wpIn (Fence.wide.inRound l) n P Q a w := by
  simp only [Region.lexB, Bool.and_eq_true] at hB
  refine wpIn_region_any hm (any_up hQ (by simpa using hd) _ _ _ _ ?_)
  refine wpAny_of_quiet (C := fun w' => ∃ p : QB.By B w, w' = p.world) (Q := fun a' => ∀ w', (∃ p : QB.By B w, w' = p.world) → Q .normal a' w') (fun _ w' hw' h => h w' hw') _ _ _ _ ⟨⟨w.drew, (Below.refl _ _).drew⟩, rfl⟩ ?_
  have := wpAnyQ_lex (C := fun w' => ∃ p : QB.By B w, w' = p.world) (md := .any) hB.1 m 0 (Array.replicate m.toArray.size false) a (by simp) (by simpa using hB.2) h
  simpa using this
/-- A still head, and a chain behind it, in a round. -/
theorem region_tail {id : Nat} {a : Act} {w : World} {m : List Oper} (k : Nat) (hQ : ¬ LetsOut Q) (hd : noDefer m = true) (hm : P.follows .mixedOrders = true) (hB : Region.lexTailB .any m.toArray k = true)
    (h : wpStill P m.toArray { w with drawn := w.drawn + 1 } (fun a' => wpList P m.toArray Q (m.drop k) a' { w with drawn := w.drawn + 1 }) (m.take k) a) : (Code.region id m.toArray true).wpIn (Fence.wide.inRound l) n P Q a w := by
  simp only [Region.lexTailB, Bool.and_eq_true, decide_eq_true_eq] at hB
  obtain ⟨⟨⟨⟨hsel, hn⟩, hs⟩, hc⟩, hlex⟩ := hB
  have hn' : k < m.length := by simpa using hn
  have htl : (m.take k).length = k := by simp; omega
  have hdl : (m.drop k).length = m.toArray.size - k := by simp
  have inv0 : HeadInv .any m.toArray k (Array.replicate m.toArray.size false) :=
    ⟨by simp, fun j oj _ hl => (by rw [getD_replicate_false] at hl; cases hl), fun t _ ht => getD_in (by simpa using ht) (getD_replicate_false _ _)⟩
  have H := wpAnyL_lex (md := .any) (g := m.toArray.size - k) hsel hs hc hn (m.take k) 0 _ a (fun j hj => by
    have hj' : j < k := by rw [htl] at hj; exact hj
    simp [hj']) (by simpa using htl) inv0 (by rw [htl]; exact hlex) h
  refine wpIn_region_any hm (any_up hQ (by simpa using hd) _ _ _ _ ?_)
  have := wpAny_of_head (Q' := Q) (g := m.toArray.size - k) (fun listed a' hL => by
    have := wpAny_of_seq (md := .any) (Q' := Q) (m.drop k) k listed a' { w with drawn := w.drawn + 1 } (fun j => by simp [List.getElem?_drop]) (by rw [hdl]; exact hL.1) hL.2
    rwa [hdl] at this) _ _ _ H
  rw [htl, show k + (m.toArray.size - k) = m.toArray.size by omega] at this
  exact this
end
end Up
namespace Tr
attribute [local go_sem] Oper.semAt_some
open Go Go.ChangeShapes Go.WideShapes Go.ChangeAt Go.RowKit
open Go.Shelf
open Tab Flat TabArg QL Ru Rg PlanM
/-- These blocks lie as they lay. -/
def KeptL (L : List Nat) (A C : World) : Prop := ∀ b ∈ L, C.heap[b]? = A.heap[b]?
theorem KeptL.refl (L : List Nat) (A : World) : KeptL L A A := fun _ _ => rfl
theorem KeptL.trans {L : List Nat} {A B C : World} (h : KeptL L A B) (k : KeptL L B C) : KeptL L A C := fun b hb => (k b hb).trans (h b hb)
theorem KeptL.cell {L : List Nat} {A C : World} (h : KeptL L A C) {x : Addr} (hx : x.block ∈ L) : C.cell? x = A.cell? x := by
  simp only [World.cell?, show C.heap[x.block]? = A.heap[x.block]? from h _ hx]
theorem KeptL.grown {L : List Nat} {A C : World} {R : Nat} (h : A.grownBy C (some R)) (hl : ∀ b ∈ L, b < A.heap.size ∧ b ≠ R) : KeptL L A C := fun b hb => h.block b (hl b hb).1 (fun e => (hl b hb).2 (Option.some.inj e))
theorem KeptL.below {L : List Nat} {A C : World} {n : Nat} (h : Below n A C) (hl : ∀ b ∈ L, b < n) : KeptL L A C := fun b hb => h.block b (hl b hb)
theorem keptL_b {L : List Nat} {w : World} (hB : ∀ b ∈ L, b < w.heap.size) (W : World) (l : Nat) (o o' : Obj) (hl : w.heap.size ≤ l) (_ : W.heap[l]? = some o) (_ : o.isCells = false) (_ : o.isWalk = false) : KeptL L W (W.putObj l o') :=
  fun b hb => World.putObj_heap_other (by have := hB b hb; omega)
/-- The blocks that the iterator reads: the library's table, its two boxes, the buses. -/
def xOf (bu : List Bs) (sl : Sl) : Option Addr := match bu with
  | [] => none
  | _ :: _ => sl.a
def blks (bs bo : Nat) (bu : List Bs) (sl : Sl) : List Nat := match xOf bu sl with
  | some x => [1, bs, bo, x.block]
  | none => [1, bs, bo]
theorem add_block (x : Addr) (i : Nat) : (x.add i).block = x.block := by unfold Addr.add; split <;> rfl
/-- What the iterator finds. -/
structure EA (bs bo : Nat) (s : Int) (bu : List Bs) (sl : Sl) (W : World) : Prop where
  cs : W.cell? ⟨bs, 0, none⟩ = some (I s)
  co : W.cell? ⟨bo, 0, none⟩ = some (.slice sl.a (min bu.length 4) sl.cap)
  row : RowOf 2 Bs.cells W sl bu
  db : DB W
theorem EA.kept {bs bo : Nat} {s : Int} {bu : List Bs} {sl : Sl} {A C : World} (h : EA bs bo s bu sl A) (k : KeptL (blks bs bo bu sl) A C) : EA bs bo s bu sl C := by
  have h0 : 1 ∈ blks bs bo bu sl := by unfold blks; split <;> simp
  have h1 : bs ∈ blks bs bo bu sl := by unfold blks; split <;> simp
  have h2 : bo ∈ blks bs bo bu sl := by unfold blks; split <;> simp
  refine ⟨(k.cell (x := ⟨bs, 0, none⟩) h1).trans h.cs, (k.cell (x := ⟨bo, 0, none⟩) h2).trans h.co, ?_, h.db.kept (k _ h0)⟩
  rcases h.row with e | ⟨x, e1, e2, e3, e4⟩
  · exact .inl e
  · refine .inr ⟨x, e1, e2, e3, fun i v hv j u hu => ?_⟩
    have hx : x.block ∈ blks bs bo bu sl := by
      match bu, hv with
      | [], hv => simp at hv
      | _ :: _, hv => unfold blks xOf; simp only [e1]; simp
    exact (k.cell (by rw [add_block, add_block]; exact hx)).trans (e4 i v hv j u hu)
theorem xOf_lt {W : World} {bu : List Bs} {sl : Sl} (h : RowOf 2 Bs.cells W sl bu) {x : Addr} (hx : xOf bu sl = some x) : x.block < W.heap.size := by
  match bu, h, hx with
  | b :: l, h, hx =>
    obtain ⟨y, h1, h2⟩ := h.at (i := 0) rfl
    obtain rfl : y = x := Option.some.inj (h1.symm.trans hx)
    have := World.block_lt_of_cell? W _ (h2 0 _ rfl)
    rwa [add_block, add_block] at this
theorem blks_cases {bs bo : Nat} {bu : List Bs} {sl : Sl} {b : Nat} (hb : b ∈ blks bs bo bu sl) : b = 1 ∨ b = bs ∨ b = bo ∨ ∃ x, xOf bu sl = some x ∧ b = x.block := by
  unfold blks at hb
  split at hb
  · rename_i x e
    simp at hb
    rcases hb with h | h | h | h
    · exact .inl h
    · exact .inr (.inl h)
    · exact .inr (.inr (.inl h))
    · exact .inr (.inr (.inr ⟨x, e, h⟩))
  · simp at hb
    rcases hb with h | h | h
    · exact .inl h
    · exact .inr (.inl h)
    · exact .inr (.inr (.inl h))
theorem EA.lt {bs bo : Nat} {s : Int} {bu : List Bs} {sl : Sl} {A : World} (h : EA bs bo s bu sl A) : ∀ b ∈ blks bs bo bu sl, b < A.heap.size := by
  intro b hb
  rcases blks_cases hb with rfl | rfl | rfl | ⟨x, e1, rfl⟩
  · exact h.db.lt
  · exact World.block_lt_of_cell? A _ h.cs
  · exact World.block_lt_of_cell? A _ h.co
  · exact xOf_lt h.row e1
def busAt (bu : List Bs) (k : Nat) : Bs := bu.getD k ⟨0, 0⟩
theorem bus_at {bu : List Bs} {k : Nat} (h : k < bu.length) : bu[k]? = some (busAt bu k) := by unfold busAt; rw [List.getD_eq_getElem?_getD, List.getElem?_eq_getElem h]; rfl
/-- The buses of the table that are in s. -/
def setOf (s : Int) (m : Nat) : Nat := SetM.low s &&& (2 ^ m - 1)
def eL (s : Int) (bu : List Bs) : List Nat := bitsOf (setOf s (min bu.length 4))
theorem setOf_lt {s : Int} {m : Nat} (h : m ≤ 4) : setOf s m < 16 := by
  unfold setOf
  have h1 : SetM.low s &&& (2 ^ m - 1) ≤ 2 ^ m - 1 := Nat.and_le_right
  have h2 : 2 ^ m ≤ 2 ^ 4 := Nat.pow_le_pow_right (by decide) h
  have h3 : 0 < 2 ^ m := Nat.pow_pos (by decide)
  omega
theorem mem_eL {s : Int} {bu : List Bs} {k : Nat} : k ∈ eL s bu ↔ k < bu.length ∧ k < 4 ∧ SetM.has s k = true := by
  unfold eL
  rw [mem_bitsOf]
  unfold setOf
  rw [Nat.testBit_and, Nat.testBit_two_pow_sub_one, SetM.has_nat, Bool.and_eq_true, decide_eq_true_eq]
  exact ⟨fun ⟨h1, h2, h3⟩ => ⟨by omega, h1, h2⟩, fun ⟨h1, h2, h3⟩ => ⟨h2, h3, by omega⟩⟩
theorem and_u64 (s : Int) (b : Nat) (h : b < 256) : bits .and .u64 (IntKind.u64.wrap s) (b : Int) = ((SetM.low s &&& b : Nat) : Int) := by
  show IntKind.u64.wrap ((BitVec.ofInt 64 (IntKind.u64.wrap s) &&& BitVec.ofInt 64 (b : Int)).toNat : Nat) = _
  rw [BitVec.toNat_and, SetM.toNat_ofNat b h]
  have e1 : (BitVec.ofInt 64 (IntKind.u64.wrap s)).toNat % 256 = SetM.low s := by
    rw [BitVec.toNat_ofInt, IntKind.wrap_u64]
    unfold SetM.low
    omega
  generalize (BitVec.ofInt 64 (IntKind.u64.wrap s)).toNat = x at e1
  have e2 : x &&& b = SetM.low s &&& b := by
    rw [← e1]
    apply Nat.eq_of_testBit_eq
    intro i
    rw [Nat.testBit_and, Nat.testBit_and, show (256 : Nat) = 2 ^ 8 from rfl, Nat.testBit_mod_two_pow]
    by_cases hi : i < 8
    · simp [hi]
    · have hb : b.testBit i = false := SetM.test_high b i h (by omega)
      simp [hb]
  rw [e2, IntKind.wrap_u64]
  have : SetM.low s &&& b ≤ b := Nat.and_le_right
  omega
theorem mask_u64 (s : Int) {m : Nat} (h : m ≤ 4) : bits .and .u64 (IntKind.u64.wrap s) (IntKind.u64.wrap (IntKind.u64.wrap (2 ^ m) - 1)) = ((setOf s m : Nat) : Int) := by
  have e : IntKind.u64.wrap (IntKind.u64.wrap (2 ^ m) - 1) = ((2 ^ m - 1 : Nat) : Int) := by
    match m, h with
    | 0, _ => decide
    | 1, _ => decide
    | 2, _ => decide
    | 3, _ => decide
    | 4, _ => decide
  rw [e, and_u64 s _ (by
    have h2 : 2 ^ m ≤ 2 ^ 4 := Nat.pow_le_pow_right (by decide) h
    omega)]
  rfl
theorem step_u64 : ∀ r : Fin 16, r.val ≠ 0 → bits .and .u64 (r.val : Int) ((r.val : Int) - 1) = ((r.val &&& (r.val - 1) : Nat) : Int) := by decide +kernel
/-- The iterator itself: for every loop body. -/
theorem each1_in (n : Nat) (hn : 1 ≤ n) (l bs bo : Nat) (s : Int) (bu : List Bs) (sl : Sl) (J Jx : List Nat → World → Prop)
    (hY : ∀ pre (k : Nat) W, J pre W → pre ++ [k] <+: eL s bu → YieldAt Fence.wide (n - 1) Tryd.prog l #[.int .i64 k, .agg (busAt bu k).cells.toArray] W fun e W' =>
      (e = .returned (.bool true) ∧ J (pre ++ [k]) W' ∧ KeptL (blks bs bo bu sl) W W') ∨ (e = .returned (.bool false) ∧ Jx (pre ++ [k]) W'))
    (W : World) (hE : EA bs bo s bu sl W) (hJ : ∀ W', Below W.heap.size W W' → J [] W') :
    CallsIn Fence.wide n Tryd.prog 37 #[.func (.yield l) #[] #[], .pointer (some ⟨bs, 0, none⟩), .pointer (some ⟨bo, 0, none⟩)] W fun e W' => (∃ v, e = .returned v) ∧
      ((∃ ys, ys = eL s bu ∧ J ys W') ∨ (∃ pre, pre <+: eL s bu ∧ Jx pre W')) := by
  have hm4 : min bu.length 4 ≤ 4 := Nat.min_le_right _ _
  have hml : min bu.length 4 ≤ bu.length := Nat.min_le_left _ _
  have HL := Lib.hid (show eL s bu = bitsOf (setOf s (min bu.length 4)) from rfl)
  have HR0 := Lib.hid (setOf_lt (s := s) hm4)
  have HK := Lib.hid hE.lt
  have HE := Lib.hid hE
  have HM : Hid (∀ r k : Nat, k ∈ eL s bu → k < min bu.length 4) := Lib.hid (fun _ k hk => by have := mem_eL.1 hk; omega)
  have cs := hE.cs
  have co := hE.co
  have HA : Hid (bits .and .u64 (IntKind.u64.wrap s) (IntKind.u64.wrap (IntKind.u64.wrap (2 ^ min bu.length 4) - 1)) = ((setOf s (min bu.length 4) : Nat) : Int)) := Lib.hid (mask_u64 s hm4)
  refine callsIn_of_wp Tryd.func37 rfl trivial ?_ rfl
  simp only [Tryd.ntmps37, List.size_toArray, List.length_cons, List.length_nil, Nat.reduceAdd, Nat.reduceSub, Array.replicate_succ, Array.replicate_zero, List.push_toArray, List.append_toArray, List.nil_append, List.cons_append]
  refine wpIn_wide.2 ?_
  have q1 : ∀ q : QB.By W.heap.size W, q.world.cell? ⟨bs, 0, none⟩ = some (I s) := fun q => (q.below.cell (World.block_lt_of_cell? W _ hE.cs)).trans hE.cs
  have q2 : ∀ q : QB.By W.heap.size W, q.world.cell? ⟨bo, 0, none⟩ = some (.slice sl.a (min bu.length 4) sl.cap) := fun q => (q.below.cell (World.block_lt_of_cell? W _ hE.co)).trans hE.co
  generalize hmm : min bu.length 4 = m at *
  have HB : Hid (m ≤ bu.length ∧ min bu.length 4 = m) := Lib.hid ⟨hml, hmm⟩
  clear hmm
  clear cs co hml
  go_wp2_with fail
  refine QB.region_below W.heap.size (by kernel_rfl) (by kernel_rfl) ?_
  repeat (quiet_step (fail))
  refine wpQuiet_nil ?_
  intro _ hw'
  obtain ⟨pq, rfl⟩ := hw'
  rw [HA.out]
  clear HA
  have BP := Lib.hid pq.below
  generalize pq.world = W1 at BP ⊢
  clear q1 q2
  have hr16 := HR0.out
  have hl0 := HL.out
  clear HL HR0
  generalize setOf s m = r0 at *
  go_wp2_with fail
  refine (wpIn_wide (n := n)).1 ?_
  gi_loopw [4] (fun i wr => ∃ (pre : List Nat) (r : Nat), r < 16 ∧ i = .int .u64 r ∧ pre ++ bitsOf r = eL s bu ∧ J pre wr ∧ KeptL (blks bs bo bu sl) W wr) (fun i _ => (intOf i).toNat)
  case atStart => exact ⟨[], r0, hr16, rfl, by rw [List.nil_append]; exact hl0.symm, hJ _ BP.out, KeptL.below BP.out HK.out⟩
  case round =>
    obtain ⟨pre, r, hr, rfl, hp, hJs, hkp⟩ := hrel
    by_cases h0 : r = 0
    · subst h0
      rw [bitsOf_zero, List.append_nil] at hp
      subst hp
      have HJ := Lib.hid hJs
      clear hJs
      gi_wp2
      go_end0
      exact ⟨⟨_, rfl⟩, .inl ⟨_, rfl, HJ.out⟩⟩
    · have hne : ((r : Int) != 0) = true := bne_iff_ne.2 (by omega)
      obtain ⟨hb1, hb2, hb3⟩ := bitsOf_step h0 hr
      have hEr := HE.out.kept hkp
      have TZ := Lib.hid (tz_any wr hEr.db r h0 hr)
      have hst := step_u64 ⟨r, hr⟩ h0
      dsimp only at hst
      rw [hb1] at hp
      generalize hk : ctz r = k at *
      generalize r &&& (r - 1) = r2 at *
      have hkm : k ∈ eL s bu := by rw [← hp]; simp
      have hkl := HM.out 0 k hkm
      obtain ⟨x, hxa, hrow⟩ := hEr.row.at (bus_at (show k < bu.length by have := HB.out.1; omega))
      have co := hEr.co
      rw [hxa, HB.out.2] at co
      obtain ⟨fn, tmps, assign, body, hy, hR⟩ := hY pre k wr hJs ⟨bitsOf r2, by rw [List.append_assoc]; exact hp⟩
      generalize busAt bu k = b at *
      have c0 := hrow 0 _ rfl
      have c1 := hrow 1 _ rfl
      rw [Tab.add_zero] at c0
      rw [Tab.add_one] at c1
      simp only [Bs.cells] at hy
      have HST := Lib.hid hst
      have HP := Lib.hid hp
      have HK2 := Lib.hid hkp
      have HE2 := Lib.hid hEr
      clear hE hEr hst hp hkp hb1 hrow hkm hxa hJs hY
      gi_wp2_with (refine ⟨trivial, ?_⟩; gi_at_call 38; refine (callsIn_wide.2 TZ.out).mono ?_; rintro e w' ⟨rfl, rfl⟩)
      refine hR.mono ?_
      rintro e W3 (⟨rfl, hJ3, hk3⟩ | ⟨rfl, hJx3⟩)
      · have hst := HST.out
        gi_wp2
        go_roundw
        case rel => exact ⟨pre ++ [k], r2, by omega, rfl, by rw [List.append_assoc]; exact HP.out, hJ3, HK2.out.trans hk3⟩
        case measure => simp [intOf, hst]; omega
      · gi_wp2
        refine bodyPost_ret (results_none rfl _ _ _) rfl ?_
        exact ⟨⟨_, rfl⟩, .inr ⟨_, ⟨bitsOf r2, by rw [List.append_assoc]; exact HP.out⟩, hJx3⟩⟩
/-- transit.each(t, s): table, set and buses boxed; the function value captures the last two boxes. -/
theorem each_in (n : Nat) (T : Tab) (hd : Hd) (s : Int) (w : World) (ht : IsTab w hd T) :
    CallsIn Fence.wide n Tryd.prog 21 #[.agg (T.cells hd).toArray, .int .i64 s] w fun e w' => e = .returned (.func (.func 37) #[] #[.pointer (some ⟨w.heap.size + 1, 0, none⟩), .pointer (some ⟨w.heap.size + 2, 0, none⟩)]) ∧ w' = ((w.alloc (.cells (T.cells hd).toArray 31)).alloc (.cells #[I s] 3)).alloc (.cells #[.slice hd.b.a (min T.buses.length 4) hd.b.cap] 29) := by
  have h1 : (T.cells hd).length = 131 := by have := (cells_ok ht).size; rwa [List.size_toArray] at this
  have hb := ht.buses.len
  have hcb := tab_bu ht
  generalize T.cells hd = tc at *
  generalize T.buses.length = bl at *
  generalize hd.b = sl at *
  obtain ⟨sa, sc⟩ := sl
  dsimp only at *
  obtain ⟨m, hm⟩ : ∃ m, min bl 4 = m := ⟨_, rfl⟩
  rw [hm]
  have WHY : (bl ≤ 4 ∧ m = bl) ∨ (4 < bl ∧ m = 4) := by omega
  clear hm ht
  rcases WHY with ⟨h4, e⟩ | ⟨h4, e⟩ <;> subst e
  · refine callsIn_of_wp Tryd.func21 rfl trivial ?_ rfl
    simp only [Tryd.ntmps21, List.size_toArray, List.length_cons, List.length_nil, Nat.reduceAdd, Nat.reduceSub, Array.replicate_succ, Array.replicate_zero, List.push_toArray, List.append_toArray, List.nil_append, List.cons_append]
    refine wpIn_wide.2 ?_
    go_upto_region 1 with fail
    have hA := (((Blk.Bks.nil w).alloc tc.toArray 31).alloc #[I s] 3)
    rw [show (w.alloc (.cells tc.toArray 31)).heap.size = w.heap.size + 1 by simp] at hA
    have k5 : ((w.alloc (.cells tc.toArray 31)).alloc (.cells #[I s] 3)).cell? ⟨w.heap.size, 115, none⟩ = some (.slice sa m sc) := hA.cell 1 115 rfl (by rw [List.getElem?_toArray]; exact hcb)
    clear hA
    have e3 : ((m : Int) ≤ 4) := by omega
    have e5 : m ≤ sc := hb.1
    go_wp2
    go_ret
    exact ⟨rfl, rfl⟩
  · refine callsIn_of_wp Tryd.func21 rfl trivial ?_ rfl
    simp only [Tryd.ntmps21, List.size_toArray, List.length_cons, List.length_nil, Nat.reduceAdd, Nat.reduceSub, Array.replicate_succ, Array.replicate_zero, List.push_toArray, List.append_toArray, List.nil_append, List.cons_append]
    refine wpIn_wide.2 ?_
    go_upto_region 1 with fail
    have hA := (((Blk.Bks.nil w).alloc tc.toArray 31).alloc #[I s] 3)
    rw [show (w.alloc (.cells tc.toArray 31)).heap.size = w.heap.size + 1 by simp] at hA
    have k5 : ((w.alloc (.cells tc.toArray 31)).alloc (.cells #[I s] 3)).cell? ⟨w.heap.size, 115, none⟩ = some (.slice sa bl sc) := hA.cell 1 115 rfl (by rw [List.getElem?_toArray]; exact hcb)
    clear hA
    have e3 : ¬ ((bl : Int) ≤ 4) := by omega
    have e5 : 4 ≤ sc := by omega
    go_wp2
    go_ret
    exact ⟨rfl, rfl⟩
/-- What the body is handed: a bus of the set. -/
abbrev Mem (s : Int) (bu : List Bs) := { k : Nat // k ∈ eL s bu }
theorem each_mem (n : Nat) (hn : 1 ≤ n) (bs bo : Nat) (s : Int) (bu : List Bs) (sl : Sl) (w : World) (hE : EA bs bo s bu sl w) :
    SeqStopsK Fence.wide n Tryd.prog 37 #[.pointer (some ⟨bs, 0, none⟩), .pointer (some ⟨bo, 0, none⟩)] (fun x : Mem s bu => #[Value.int .i64 x.1, .agg (busAt bu x.1).cells.toArray]) (KeptL (blks bs bo bu sl)) (fun ys => ys.map Subtype.val = eL s bu) (fun pre => pre.map Subtype.val <+: eL s bu) (eL s bu).length w := fun l J Jx W hW hA _ hY h0 => by
  have hl := hE.lt
  refine (each1_in n hn l bs bo s bu sl (fun pre W => ∃ m : List (Mem s bu), m.map Subtype.val = pre ∧ J m W) (fun pre W => ∃ m : List (Mem s bu), m.map Subtype.val = pre ∧ Jx m W) ?_ W (hE.kept (KeptL.below hW hl)) (fun W' hb => ⟨[], rfl, hA [] W W' none h0 ⟨hb.os, hb.tape, hb.output, hb.size, fun j hj _ => hb.block j hj⟩ (fun r e => by cases e)⟩)).mono ?_
  · rintro pre x W1 ⟨m, rfl, hJ⟩ hp
    have hx : x ∈ eL s bu := hp.subset (by simp)
    have hl : m.length < (eL s bu).length := by have := hp.length_le; simp at this; omega
    obtain ⟨fn, tmps, assign, body, hy, hR⟩ := hY m ⟨x, hx⟩ W1 hJ hl
    refine ⟨fn, tmps, assign, body, hy, hR.mono ?_⟩
    rintro e W' (⟨h1, h2, h3⟩ | ⟨h1, h2⟩)
    · exact .inl ⟨h1, ⟨_, by simp, h2⟩, h3⟩
    · exact .inr ⟨h1, ⟨_, by simp, h2⟩⟩
  · rintro e W' ⟨hv, h⟩
    refine ⟨hv, ?_⟩
    rcases h with ⟨ys, rfl, m, hm, hJ⟩ | ⟨pre, hp, m, rfl, hJ⟩
    · exact .inl ⟨m, hm, hJ⟩
    · exact .inr ⟨m, hp, hJ⟩
/-- How a round of a loop that writes one block is left. -/
def rpost (R : Nat) (o : List Nat → Obj) (pre : List Nat) (k : Nat) (W : World) : Exit → Act → World → Prop
  | .normal, _, W' => W'.heap[R]? = some (o (pre ++ [k])) ∧ W.grownBy W' (some R)
  | _, _, _ => False
/-- for k, b := range each(t, s) { .. }: each round writes the block R (and makes memory); b lies in a block Bx that the round makes. -/
theorem each_loop {g : Operand} {ps : Array Tmp} {assign body : Code} {Q : Exit → Act → World → Prop} {a : Act} {W0 : World} (o : List Nat → Obj) (bs bo R : Nat) (s : Int) (bu : List Bs) (sl : Sl)
    (hg : a.eval g = .func (.func 37) #[] #[.pointer (some ⟨bs, 0, none⟩), .pointer (some ⟨bo, 0, none⟩)]) (hps : ps.size = 2) (hE : EA bs bo s bu sl W0) (hR : R < W0.heap.size) (hl : ∀ b ∈ blks bs bo bu sl, b < W0.heap.size ∧ b ≠ R) (ho : ∀ pre, (o pre).isCells = true) (A : Nat → Nat → Act) (ty : TypeId) (cs : Nat → Array Value) (h0 : W0.heap[R]? = some (o []))
    (hassign : ∀ (l k : Nat) (W : World) (K : Act → World → Prop), W0.grownBy W (some R) → (∀ W', Below W.heap.size W W' → W'.heap[W.heap.size]? = some (.cells (cs k) ty (0, 0)) → K (A k W.heap.size) W') → assign.wpIn (Fence.wide.inRound l) 4 Tryd.prog (Exit.then K (fun _ _ _ => False)) { tmps := (ps.zip #[Value.int .i64 k, .agg (busAt bu k).cells.toArray]).foldl (fun t (p, v) => t.setIfInBounds p v) a.tmps, defers := [] } W)
    (hbody : ∀ (l : Nat) (pre : List Nat) (k Bx : Nat) (W : World), k ∈ eL s bu → W.heap[R]? = some (o pre) → W0.grownBy W (some R) → W0.heap.size ≤ Bx → W.heap[Bx]? = some (.cells (cs k) ty (0, 0)) → body.wpIn (Fence.wide.inRound l) 4 Tryd.prog (rpost R o pre k W) (A k Bx) W)
    (hdone : ∀ (D : Nat) (W : World), W0.heap.size ≤ D → W.heap[R]? = some (o (eL s bu)) → W0.grownBy W (some R) → W.heap[D]? = some (.deferred (some [])) → Q .normal { a with defers := { target := .collected D, args := #[] } :: a.defers } W) :
    (Code.rangeFunc g ps assign body).wpIn Fence.wide 6 Tryd.prog Q a W0 := by
  refine wpIn_rangeFunc_ownH rfl (by omega) (gf := 37) (lb := #[.pointer (some ⟨bs, 0, none⟩), .pointer (some ⟨bo, 0, none⟩)]) hg trivial (enters_of Tryd.func37 (by kernel_rfl) rfl)
    (each_mem _ (by omega) bs bo s bu sl W0 hE) KeptL.trans (keptL_b (fun b hb => (hl b hb).1)) (Below.refl _ _) (fun _ => hps.symm)
    (fun pre W => W.heap[R]? = some (o (pre.map Subtype.val)) ∧ W0.grownBy W (some R)) (fun _ _ _ => False)
    ?own (fun _ _ _ _ _ hs _ _ => hs) ⟨h0, Search.grown_of_below (Below.refl _ _)⟩
    (fun x a' W => ∃ Bx, W0.heap.size ≤ Bx ∧ W.heap[Bx]? = some (.cells (cs x.1) ty (0, 0)) ∧ a' = A x.1 Bx)
    ?ax ?assign ?body ?done ?stop
  case own =>
    rintro pre W W' row ⟨h1, h2⟩ hgr hr
    exact ⟨(hgr.block R (Array.getElem?_eq_some_iff.1 h1).1 (fun e => by have := (hr R e.symm).1; omega)).trans h1, Search.grown_from h2 hgr (fun r e => (hr r e).1)⟩
  case ax =>
    rintro x a' _ X Y row ⟨Bx, e1, e2, e3⟩ hgr hr
    refine ⟨Bx, e1, (hgr.block Bx (Array.getElem?_eq_some_iff.1 e2).1 (fun e => ?_)).trans e2, e3⟩
    obtain ⟨_, ob, h3, h4⟩ := hr Bx e.symm
    rw [e2] at h3
    obtain rfl := Option.some.inj h3
    cases h4
  case assign =>
    rintro l pre ⟨x, hx⟩ W K ⟨h1, h2⟩ hK
    refine hassign l x W K h2 fun W' hb hB => ?_
    refine hK _ _ ((Search.keeps_below hb)) (KeptL.below hb (fun b hb => Nat.lt_of_lt_of_le (hl b hb).1 h2.size)) ⟨(hb.block R (Array.getElem?_eq_some_iff.1 h1).1).trans h1, Search.grown_trans h2 (Search.grown_of_below hb)⟩ ⟨W.heap.size, h2.size, hB, rfl⟩
  case body =>
    rintro l pre ⟨x, hx⟩ a' W hlw hlr ⟨h1, h2⟩ ⟨Bx, e1, e2, rfl⟩ hlt
    refine wpIn_mono (hbody l (pre.map Subtype.val) x Bx W hx h1 h2 e1 e2) ?_
    intro e a' W' h
    cases e with
    | normal =>
      obtain ⟨h3, h4⟩ := h
      exact ⟨KeepsFrom.of_grownBy h4 (fun j e => by cases e; exact hR), KeptL.grown h4 (fun b hb => ⟨Nat.lt_of_lt_of_le (hl b hb).1 h2.size, (hl b hb).2⟩), by rw [List.map_append]; exact h3, Search.grown_trans h2 h4⟩
    | _ => exact h.elim
  case done =>
    rintro D ys W hD hS ⟨h1, h2⟩ hK
    rw [hS] at h1
    exact hdone D W hD h1 h2 hK
  case stop =>
    rintro D c pre W hD _ h _
    exact h.elim
end Tr
namespace Tr
attribute [local go_sem] Oper.semAt_some
open Go Go.ChangeShapes Go.WideShapes Go.ChangeAt Go.RowKit
open Tab Flat TabArg QL Ru Rg PlanM
/-- for k := range each(t, s) { .. }: each round writes the block R (and makes memory). -/
theorem each_loop0 {g : Operand} {ps : Array Tmp} {assign body : Code} {Q : Exit → Act → World → Prop} {a : Act} {W0 : World} (o : List Nat → Obj) (bs bo R : Nat) (s : Int) (bu : List Bs) (sl : Sl)
    (hg : a.eval g = .func (.func 37) #[] #[.pointer (some ⟨bs, 0, none⟩), .pointer (some ⟨bo, 0, none⟩)]) (hps : ps.size = 2) (hE : EA bs bo s bu sl W0) (hR : R < W0.heap.size) (hl : ∀ b ∈ blks bs bo bu sl, b < W0.heap.size ∧ b ≠ R) (ho : ∀ pre, (o pre).isCells = true) (A : Nat → Act) (h0 : W0.heap[R]? = some (o []))
    (hassign : ∀ (l k : Nat) (W : World) (K : Act → World → Prop), W0.grownBy W (some R) → K (A k) W → assign.wpIn (Fence.wide.inRound l) 4 Tryd.prog (Exit.then K (fun _ _ _ => False)) { tmps := (ps.zip #[Value.int .i64 k, .agg (busAt bu k).cells.toArray]).foldl (fun t (p, v) => t.setIfInBounds p v) a.tmps, defers := [] } W)
    (hbody : ∀ (l : Nat) (pre : List Nat) (k : Nat) (W : World), k ∈ eL s bu → W.heap[R]? = some (o pre) → W0.grownBy W (some R) → body.wpIn (Fence.wide.inRound l) 4 Tryd.prog (rpost R o pre k W) (A k) W)
    (hdone : ∀ (D : Nat) (W : World), W0.heap.size ≤ D → W.heap[R]? = some (o (eL s bu)) → W0.grownBy W (some R) → W.heap[D]? = some (.deferred (some [])) → Q .normal { a with defers := { target := .collected D, args := #[] } :: a.defers } W) :
    (Code.rangeFunc g ps assign body).wpIn Fence.wide 6 Tryd.prog Q a W0 := by
  refine wpIn_rangeFunc_ownH rfl (by omega) (gf := 37) (lb := #[.pointer (some ⟨bs, 0, none⟩), .pointer (some ⟨bo, 0, none⟩)]) hg trivial (enters_of Tryd.func37 (by kernel_rfl) rfl)
    (each_mem _ (by omega) bs bo s bu sl W0 hE) KeptL.trans (keptL_b (fun b hb => (hl b hb).1)) (Below.refl _ _) (fun _ => hps.symm)
    (fun pre W => W.heap[R]? = some (o (pre.map Subtype.val)) ∧ W0.grownBy W (some R)) (fun _ _ _ => False)
    ?own (fun _ _ _ _ _ hs _ _ => hs) ⟨h0, Search.grown_of_below (Below.refl _ _)⟩
    (fun x a' _ => a' = A x.1) (fun _ _ _ _ _ _ hs _ _ => hs)
    ?assign ?body ?done ?stop
  case own =>
    rintro pre W W' row ⟨h1, h2⟩ hgr hr
    exact ⟨(hgr.block R (Array.getElem?_eq_some_iff.1 h1).1 (fun e => by have := (hr R e.symm).1; omega)).trans h1, Search.grown_from h2 hgr (fun r e => (hr r e).1)⟩
  case assign =>
    rintro l pre ⟨x, hx⟩ W K ⟨h1, h2⟩ hK
    exact hassign l x W K h2 (hK _ _ (KeepsFrom.refl _ _) (KeptL.refl _ _) ⟨h1, h2⟩ rfl)
  case body =>
    rintro l pre ⟨x, hx⟩ a' W hlw hlr ⟨h1, h2⟩ rfl hlt
    refine wpIn_mono (hbody l (pre.map Subtype.val) x W hx h1 h2) ?_
    intro e a' W' h
    cases e with
    | normal =>
      obtain ⟨h3, h4⟩ := h
      exact ⟨KeepsFrom.of_grownBy h4 (fun j e => by cases e; exact hR), KeptL.grown h4 (fun b hb => ⟨Nat.lt_of_lt_of_le (hl b hb).1 h2.size, (hl b hb).2⟩), by rw [List.map_append]; exact h3, Search.grown_trans h2 h4⟩
    | _ => exact h.elim
  case done =>
    rintro D ys W hD hS ⟨h1, h2⟩ hK
    rw [hS] at h1
    exact hdone D W hD h1 h2 hK
  case stop =>
    rintro D c pre W hD _ h _
    exact h.elim
/-- The numbers of l for which f holds, as a set. -/
def fN (f : Nat → Bool) (l : List Nat) : Nat := SetM.of ((l.filter f).map Int.ofNat)
theorem fN_lt (f : Nat → Bool) (l : List Nat) : fN f l < 256 := SetM.of_lt _
theorem fN_miss {f : Nat → Bool} {l : List Nat} {k : Nat} (h : f k = false) : fN f (l ++ [k]) = fN f l := by
  unfold fN; rw [List.filter_append]; simp [h]
theorem fN_hit {f : Nat → Bool} {l : List Nat} {k : Nat} (h : f k = true) (hk : k < 8) : fN f (l ++ [k]) = fN f l ||| 2 ^ k := by
  unfold fN; rw [List.filter_append]; simp only [List.filter_cons, h, if_true, List.filter_nil, List.map_append, List.map_cons, List.map_nil]
  rw [SetM.of_snoc]
  exact congrArg _ (SetM.bit_in k hk)
theorem or_nat (m b : Nat) (hm : m < 256) (hb : b < 256) : bits .or .i64 (m : Int) (b : Int) = ((m ||| b : Nat) : Int) := by
  show IntKind.i64.wrap ((BitVec.ofInt 64 (m : Int) ||| BitVec.ofInt 64 (b : Int)).toNat : Nat) = _
  rw [BitVec.toNat_or, SetM.toNat_ofNat m hm, SetM.toNat_ofNat b hb]
  exact SetM.wrap_small _ (Nat.or_lt_two_pow (n := 8) hm hb)
theorem pow_wrap {k : Nat} (hk : k < 8) : wrap64 ((2 : Int) ^ k) = ((2 ^ k : Nat) : Int) := by
  rw [IntWalk.wrap64_in _ (by
    have h2 : (2 : Int) ^ k ≤ 2 ^ 8 := by exact_mod_cast Nat.pow_le_pow_right (by decide) (show k ≤ 8 by omega)
    have h3 : (0 : Int) ≤ 2 ^ k := by exact_mod_cast Nat.zero_le _
    omega)]
  simp
theorem pow_lt8 {k : Nat} (hk : k < 8) : 2 ^ k < 256 := by
  have : 2 ^ k ≤ 2 ^ 7 := Nat.pow_le_pow_right (by decide) (by omega)
  omega
theorem fN_or {f : Nat → Bool} {l : List Nat} {k : Nat} (h : f k = true) (hk : k < 8) : bits .or .i64 (fN f l : Nat) (wrap64 ((2 : Int) ^ k)) = (fN f (l ++ [k]) : Nat) := by
  rw [pow_wrap hk, or_nat _ _ (fN_lt _ _) (pow_lt8 hk), fN_hit h hk]
/-- P20.1: the live buses. -/
def liveS (T : Tab) (s : Rid) (ask : Int) : Nat := fN (fun k => decide (s.lk k ≤ 0)) (eL ask T.buses)
end Tr
end Go.Proofs.YtkccepdifgldeaaDoor
