/- 16 texts in one file, in build order. -/
import Derived.Test.YtneaomdgjlmleaaRows
import Derived.Test.YtneaomdgjlmleaaPart03
import Derived.Test.YtneaomdgjlmleaaPart01
import Derived.OwnWalk
import Derived.WalkKit
import Derived.ProofKit
import Derived.IntWalk
import Derived.Lib.Hide
import Derived.LoopTactic
import Derived.Below
import Derived.BigQuiet
import Derived.Deep.QuietTactic
import Derived.Test.YtneaomdgjlmleaaPart02
import Derived.Deep.Cut
import Derived.Deep.RegionHeld
set_option linter.unusedVariables false
set_option linter.unusedSimpArgs false
set_option linter.unusedSectionVars false
set_option maxHeartbeats 8000000
set_option maxRecDepth 100000
namespace Go.Proofs.Ytneaomdgjlmleaa
namespace RefS
open Go.ChangeShapes Go.WideShapes Go.ChangeAt Go.RowKit
open Go.Proofs.Ytneaomdgjlmleaa
theorem ret_int {k : IntKind} {a b : Int} (h : a = b) : Ending.returned (.int k a) = .returned (.int k b) := by rw [h]
theorem ret_bool {a b : Bool} (h : a = b) : Ending.returned (.bool a) = .returned (.bool b) := by rw [h]
theorem eight {p : Int} (h : 0 ≤ p) (h' : p < 8) : p = 0 ∨ p = 1 ∨ p = 2 ∨ p = 3 ∨ p = 4 ∨ p = 5 ∨ p = 6 ∨ p = 7 := by omega
theorem shr_has (s : Int) (k : Nat) (h : k < 8) : (bits .and .i64 (s / 2 ^ k) 1 == 1) = SetM.has s k := by
  rw [SetM.has_shr s k h]
  cases SetM.has s k <;> rfl
theorem rhas_any (s p : Int) (w : World) : Calls Try.prog 22 #[.int .i64 s, .int .i64 p] w fun e w' => e = .returned (.bool (SetM.has s p)) ∧ w = w' := by
  by_cases h1 : p < 0
  · have HB := Lib.hid (SetM.has_neg s p h1)
    go_enter Try.func22, Try.ntmps22
    go_wp2
    go_ret
    exact ⟨ret_bool HB.out.symm, rfl⟩
  by_cases h2 : 8 ≤ p
  · have HB := Lib.hid (SetM.has_big s p h2)
    go_enter Try.func22, Try.ntmps22
    go_wp2
    go_ret
    exact ⟨ret_bool HB.out.symm, rfl⟩
  rcases eight (p := p) (by omega) (by omega) with rfl | rfl | rfl | rfl | rfl | rfl | rfl | rfl
  · have HB := Lib.hid (show (bits .and .i64 s 1 == 1) = SetM.has s 0 from by have := shr_has s 0 (by decide); simpa using this)
    clear h1 h2
    go_enter Try.func22, Try.ntmps22
    go_wp2
    go_ret
    exact ⟨ret_bool HB.out, rfl⟩
  · have HB := Lib.hid (show (bits .and .i64 (s / 2) 1 == 1) = SetM.has s 1 from shr_has s 1 (by decide))
    clear h1 h2
    go_enter Try.func22, Try.ntmps22
    go_wp2
    go_ret
    exact ⟨ret_bool HB.out, rfl⟩
  · have HB := Lib.hid (show (bits .and .i64 (s / 4) 1 == 1) = SetM.has s 2 from shr_has s 2 (by decide))
    clear h1 h2
    go_enter Try.func22, Try.ntmps22
    go_wp2
    go_ret
    exact ⟨ret_bool HB.out, rfl⟩
  · have HB := Lib.hid (show (bits .and .i64 (s / 8) 1 == 1) = SetM.has s 3 from shr_has s 3 (by decide))
    clear h1 h2
    go_enter Try.func22, Try.ntmps22
    go_wp2
    go_ret
    exact ⟨ret_bool HB.out, rfl⟩
  · have HB := Lib.hid (show (bits .and .i64 (s / 16) 1 == 1) = SetM.has s 4 from shr_has s 4 (by decide))
    clear h1 h2
    go_enter Try.func22, Try.ntmps22
    go_wp2
    go_ret
    exact ⟨ret_bool HB.out, rfl⟩
  · have HB := Lib.hid (show (bits .and .i64 (s / 32) 1 == 1) = SetM.has s 5 from shr_has s 5 (by decide))
    clear h1 h2
    go_enter Try.func22, Try.ntmps22
    go_wp2
    go_ret
    exact ⟨ret_bool HB.out, rfl⟩
  · have HB := Lib.hid (show (bits .and .i64 (s / 64) 1 == 1) = SetM.has s 6 from shr_has s 6 (by decide))
    clear h1 h2
    go_enter Try.func22, Try.ntmps22
    go_wp2
    go_ret
    exact ⟨ret_bool HB.out, rfl⟩
  · have HB := Lib.hid (show (bits .and .i64 (s / 128) 1 == 1) = SetM.has s 7 from shr_has s 7 (by decide))
    clear h1 h2
    go_enter Try.func22, Try.ntmps22
    go_wp2
    go_ret
    exact ⟨ret_bool HB.out, rfl⟩
theorem info3 : (Try.prog.info? 3).map (fun i => (i.zero, i.size, i.bytes)) = some (some (.int .i64 0), 1, 8) := by kernel_rfl
/-- A slice of its own memory (laid since B) that holds the integers l; nil just where there are none. -/
def Owns (B : Nat) (W : World) (v : Value) (l : List Int) : Prop := W.ownsRow B 3 1 v l.length (l.map (Value.int .i64)) ∧ (v = .slice none 0 0 ↔ l = [])
/-- What a function hands back that gathers integers. -/
def Gave (w : World) (l : List Int) (e : Ending) (W' : World) : Prop := ∃ v, e = .returned v ∧ Owns w.heap.size W' v l ∧ Below w.heap.size w W'
theorem row_blk {W : World} {n₀ e size k : Nat} {v : Value} {xs : List Value} (h : W.ownsRow n₀ e size v k xs) (j : Nat) (hj : v.ownBlock = some j) : n₀ ≤ j := by
  rcases h.2 with ⟨rfl, _⟩ | ⟨g, cap, cur, rfl, hb, _, _⟩
  · simp [Value.ownBlock] at hj
  · obtain rfl : g = j := by simpa [Value.ownBlock] using hj
    exact hb
theorem map_snoc (pre : List Int) (x : Int) : pre.map (Value.int .i64) ++ [.int .i64 x] = (pre ++ [x]).map (Value.int .i64) := by simp
theorem add_zero (x : Addr) : x.add 0 = x := by cases x; simp [Addr.add]
/-- A slice's address under which the integers l lie. -/
def Row (w : World) (a : Option Addr) (l : List Int) : Prop := l.length ≤ maxLen ∧ (l = [] ∨ ∃ x, a = some x ∧ ∀ i, i < l.length → w.cell? (x.add i) = some (.int .i64 (l.getD i 0)))
theorem Row.cells {w : World} {a : Option Addr} {l : List Int} (h : Row w a l) {k : Nat} (hk : k < l.length) : ∃ x, a = some x ∧ ∀ i, i < l.length → w.cell? (x.add i) = some (.int .i64 (l.getD i 0)) := by
  rcases h.2 with rfl | h
  · simp at hk
  · exact h
theorem Row.below {w w' : World} {a : Option Addr} {l : List Int} (h : Row w a l) (hb : Below w.heap.size w w') : Row w' a l := by
  refine ⟨h.1, ?_⟩
  rcases h.2 with h | ⟨x, hx, hc⟩
  · exact .inl h
  · exact .inr ⟨x, hx, fun i hi => (hb.cell (World.block_lt_of_cell? w _ (hc i hi))).trans (hc i hi)⟩
/-- What a function has gathered reads as a row. -/
theorem row_of {B : Nat} {w : World} {v : Value} {l : List Int} (h : Owns B w v l) : ∃ a cap, v = .slice a l.length cap ∧ Row w a l := by
  rcases h.1.2 with ⟨rfl, h0⟩ | ⟨g, cap, cur, rfl, h1, h2, h3, h4, h5, h6⟩
  · have : l = [] := h.2.1 rfl
    subst this
    exact ⟨none, 0, rfl, Nat.zero_le _, .inl rfl⟩
  · refine ⟨_, cap, rfl, by omega, .inr ⟨_, rfl, fun i hi => ?_⟩⟩
    exact h.1.cells (g := g) rfl i (.int .i64 (l.getD i 0)) (by rw [List.getElem?_map, List.getD_eq_getElem?_getD, List.getElem?_eq_getElem hi]; rfl)
theorem take_succ (l : List Int) (k : Nat) (h : k < l.length) : l.take (k + 1) = l.take k ++ [l.getD k 0] := by
  rw [List.take_succ_eq_append_getElem h, List.getD_eq_getElem?_getD, List.getElem?_eq_getElem h]; rfl
theorem or_small (m b : Nat) (hm : m < 256) (hb : b < 256) : bits .or .i64 (m : Int) (b : Int) = ((m ||| b : Nat) : Int) :=
  (bits_nat .i64 8 (by decide) (fun n h0 h1 => by rw [IntKind.wrap_i64]; omega) m b hm hb).2
theorem ref_lt (l : List Int) (k : Nat) (h : k ≤ 8) : SetM.refOf l k < 256 := Nat.lt_of_lt_of_le (SetM.refOf_lt l k) (Nat.pow_le_pow_right (n := 2) (by decide) h : 2 ^ k ≤ 2 ^ 8)
theorem ref_or (l : List Int) (k : Nat) (h : k < 8) (hm : (k : Int) ∈ l) : bits .or .i64 (SetM.refOf l k : Nat) ((2 ^ k : Nat) : Int) = (SetM.refOf l (k + 1) : Nat) := by
  rw [or_small _ _ (ref_lt l k (by omega)) (show 2 ^ k < 2 ^ 8 from Nat.pow_lt_pow_right (by decide) h), SetM.refOf_hit l k hm]
theorem wrap_pow (k : Nat) (h : k < 8) : wrap64 ((2 : Int) ^ k) = ((2 ^ k : Nat) : Int) := by
  have h3 : k = 0 ∨ k = 1 ∨ k = 2 ∨ k = 3 ∨ k = 4 ∨ k = 5 ∨ k = 6 ∨ k = 7 := by omega
  rcases h3 with rfl | rfl | rfl | rfl | rfl | rfl | rfl | rfl <;> decide +kernel
theorem ref_or2 (l : List Int) (k : Nat) (h : k < 8) (hm : (k : Int) ∈ l) : bits .or .i64 (SetM.refOf l k : Nat) (wrap64 ((2 : Int) ^ k)) = (SetM.refOf l (k + 1) : Nat) := by
  rw [wrap_pow k h, ref_or l k h hm]
/-- The first place of a number that is there. -/
theorem first_at {l : List Int} {p : Int} (h : p ∈ l) : ∃ j, j < l.length ∧ l.getD j 0 = p ∧ ∀ i, i < j → l.getD i 0 ≠ p := by
  induction l with
  | nil => simp at h
  | cons y l ih =>
    by_cases e : y = p
    · exact ⟨0, by simp, by simpa using e, fun i hi => by omega⟩
    · obtain ⟨j, h1, h2, h3⟩ := ih (by simpa [Ne.symm e] using h)
      refine ⟨j + 1, by simp; omega, by simpa using h2, fun i hi => ?_⟩
      cases i with
      | zero => simpa using e
      | succ i => simpa using h3 i (by omega)
theorem rof_any (a : Option Addr) (cap : Nat) (l : List Int) (w : World) (h : Row w a l) :
    Calls Try.prog 21 #[.slice a l.length cap] w fun e w' => e = .returned (.int .i64 (SetM.of l : Nat)) ∧ w = w' := by
  have h1 := h.1
  unfold maxLen at h1
  have Hr := Lib.hid h
  clear h
  go_enter Try.func21, Try.ntmps21
  go_wp2
  go_loop [3, 4] (fun t p => ∃ k : Nat, k ≤ 8 ∧ p = .int .i64 k ∧ t = .int .i64 (SetM.refOf l k : Nat)) (fun _ p => 8 - (intOf p).toNat)
  case atStart => exact ⟨0, Nat.zero_le _, rfl, rfl⟩
  case round =>
    obtain ⟨k, hk, rfl, rfl⟩ := hrel
    by_cases hlt : k < 8
    · by_cases hm : (k : Int) ∈ l
      · have HS := Lib.hid (ref_or2 l k hlt hm)
        obtain ⟨j, hj, hjk, hjn⟩ := first_at hm
        have Hj := Lib.hid hjk
        have Hn := Lib.hid hjn
        clear hjk hjn hm
        go_wp2
        go_loop [3, 5] (fun t i => ∃ m : Nat, m ≤ j ∧ i = .int .i64 m ∧ t = .int .i64 (SetM.refOf l k : Nat)) (fun _ i => j - (intOf i).toNat)
        case atStart => exact ⟨0, Nat.zero_le _, rfl, rfl⟩
        case round =>
          obtain ⟨m, hm, rfl, rfl⟩ := hrel
          have hml : m < l.length := by omega
          obtain ⟨x, rfl, hc⟩ := Hr.out.cells hml
          have hcell := hc m hml
          clear hc
          by_cases hmj : m < j
          · have hne := Hn.out m hmj
            generalize l.getD m 0 = y at hne hcell
            go_wp2
            go_round
            case rel => exact ⟨m + 1, by omega, by go_num, rfl⟩
            case measure => simp [intOf]; omega
          · obtain rfl : m = j := by omega
            rw [Hj.out] at hcell
            go_wp2
            go_round
            case rel => exact ⟨k + 1, by omega, by go_num, by rw [HS.out]⟩
            case measure => simp [intOf]; omega
      · have HS := Lib.hid (SetM.refOf_miss l k hm)
        have Hm : Hid (∀ i, i < l.length → l.getD i 0 ≠ (k : Int)) := Lib.hid (fun i hi e => hm (by rw [← e, List.getD_eq_getElem?_getD, List.getElem?_eq_getElem hi]; exact List.getElem_mem hi))
        clear hm
        go_wp2
        go_loop [3, 5] (fun t i => ∃ m : Nat, m ≤ l.length ∧ i = .int .i64 m ∧ t = .int .i64 (SetM.refOf l k : Nat)) (fun _ i => l.length - (intOf i).toNat)
        case atStart => exact ⟨0, Nat.zero_le _, rfl, rfl⟩
        case round =>
          obtain ⟨m, hm, rfl, rfl⟩ := hrel
          by_cases hml : m < l.length
          · obtain ⟨x, rfl, hc⟩ := Hr.out.cells hml
            have hcell := hc m hml
            clear hc
            have hne := Hm.out m hml
            generalize l.getD m 0 = y at hne hcell
            go_wp2
            go_round
            case rel => exact ⟨m + 1, by omega, by go_num, rfl⟩
            case measure => simp [intOf]; omega
          · go_wp2
            go_round
            case rel => exact ⟨k + 1, by omega, by go_num, by rw [HS.out]⟩
            case measure => simp [intOf]; omega
    · have HS := Lib.hid (SetM.refOf_eq l)
      obtain rfl : k = 8 := by omega
      go_wp2
      go_ret
      exact ⟨ret_int (by rw [HS.out]), rfl⟩
theorem list_snoc {B : Nat} {l : List Int} {x : Int} {v' : Value} {w1 : World} (h : w1.ownsRow B 3 1 v' (l.length + 1) (l.map (Value.int .i64) ++ [.int .i64 x])) (hn : ¬ v' = .slice none 0 0) : Owns B w1 v' (l ++ [x]) := by
  refine ⟨?_, ?_⟩
  · rw [List.length_append, ← map_snoc]; exact h
  · simp [hn]
theorem rlist_any (s : Int) (w : World) : Calls Try.prog 37 #[.int .i64 s] w (Gave w (SetM.list s)) := by
  obtain ⟨i0, hi, hz0, hz1, hz2⟩ := info_parts info3
  go_enter Try.func37, Try.ntmps37
  go_wp2
  go_loopw [3, 4] (fun v p wr => ∃ k : Nat, k ≤ 8 ∧ p = .int .i64 k ∧ Owns w.heap.size wr v (SetM.upto s k) ∧ Below w.heap.size w wr) (fun _ p _ => 8 - (intOf p).toNat)
  case atStart => exact ⟨0, Nat.zero_le _, rfl, ⟨World.ownsRow_nil _ _ _ _, by simp [SetM.upto_zero]⟩, Below.refl _ _⟩
  case round =>
    obtain ⟨k, hk, rfl, ⟨hown, hnil⟩, hbel⟩ := hrel
    have hB := hbel.size
    have Hn := Lib.hid hnil
    clear hnil
    by_cases hlt : k < 8
    · have hul := SetM.upto_len s k
      by_cases hh : SetM.has s k = true
      · have Hs := Lib.hid (SetM.upto_hit s k hh)
        go_wp2_with (first
          | (go_at_call 22; refine (rhas_any _ _ _).mono ?_; rintro e w' ⟨rfl, rfl⟩; rw [hh])
          | (at_builtin; refine wpList_append_own _ rfl _ _ 39 rfl w.heap.size 3 i0 (.int .i64 0) 1 8 Try.underlying39 hi hz0 hz1 hz2 rfl (by decide) _ _ _ rfl (hown.alloc _) ⟨wr.heap.size, 0, none⟩ 1 1 [.int .i64 (k : Int)] rfl rfl ?c1 ?c2 ?c3 ?c4 ?c5 ?_))
        case c1 =>
          intro j u hj
          match j, hj with
          | 0, hj => simp at hj; subst hj; simp [Addr.add]
        case c2 => intro u hu; simp at hu; subst hu; rfl
        case c3 => unfold maxLen; omega
        case c4 => omega
        case c5 => simp; omega
        intro v' w1 hown' hgrow hnil'
        have hbel' : Below w.heap.size w w1 := (hbel.alloc (by omega) _).grown hgrow (by simp; omega) fun j hj => row_blk hown j hj
        have Hown := Lib.hid (list_snoc hown' hnil')
        clear hown' hgrow hown hnil'
        go_wp2
        go_roundw
        case rel => exact ⟨k + 1, by omega, by go_num, by rw [Hs.out]; exact Hown.out, hbel'⟩
        case measure => simp [intOf]; omega
      · have hh' : SetM.has s k = false := by simpa using hh
        have Hs := Lib.hid (SetM.upto_miss s k hh')
        clear hh
        go_wp2_with (go_at_call 22; refine (rhas_any _ _ _).mono ?_; rintro e w' ⟨rfl, rfl⟩; rw [hh'])
        go_roundw
        case rel => exact ⟨k + 1, by omega, by go_num, by rw [Hs.out]; exact ⟨hown, Hn.out⟩, hbel⟩
        case measure => simp [intOf]; omega
    · obtain rfl : k = 8 := by omega
      go_wp2
      go_ret
      exact ⟨_, rfl, ⟨hown, Hn.out⟩, hbel⟩
theorem rwith_any (s p : Int) (w : World) : Calls Try.prog 33 #[.int .i64 s, .int .i64 p] w fun e w' => e = .returned (.int .i64 (SetM.withN s p : Nat)) ∧ Below w.heap.size w w' := by
  obtain ⟨i0, hi, hz0, hz1, hz2⟩ := info_parts info3
  have hl8 := SetM.list_len s
  have HS := Lib.hid (SetM.of_with s p)
  go_enter Try.func33, Try.ntmps33
  go_wp2_with fail
  refine (rlist_any _ _).mono ?_
  rintro e w1 ⟨v, rfl, ⟨hown, hnil⟩, hbel⟩
  have hB := hbel.size
  clear hnil
  go_wp2_with (at_builtin; refine wpList_append_own _ rfl _ _ 39 rfl w.heap.size 3 i0 (.int .i64 0) 1 8 Try.underlying39 hi hz0 hz1 hz2 rfl (by decide) _ _ _ rfl (hown.alloc _) ⟨w1.heap.size, 0, none⟩ 1 1 [.int .i64 p] rfl rfl ?c1 ?c2 ?c3 ?c4 ?c5 ?_)
  case c1 =>
    intro j u hj
    match j, hj with
    | 0, hj => simp at hj; subst hj; simp [Addr.add]
  case c2 => intro u hu; simp at hu; subst hu; rfl
  case c3 => unfold maxLen; omega
  case c4 => omega
  case c5 => simp; omega
  intro v' w2 hown' hgrow hnil'
  have hbel' : Below w.heap.size w w2 := (hbel.alloc (by omega) _).grown hgrow (by simp; omega) fun j hj => row_blk hown j hj
  obtain ⟨L, hL⟩ : ∃ L, SetM.list s ++ [p] = L := ⟨_, rfl⟩
  have hrow' := list_snoc hown' hnil'
  rw [hL] at HS hrow'
  obtain ⟨a, cap, rfl, hrow⟩ := row_of hrow'
  have Hrow := Lib.hid hrow
  clear hown' hgrow hown hnil' hrow hrow' hL
  go_wp2_with (go_at_call 21; refine (rof_any _ _ L _ Hrow.out).mono ?_; rintro e w' ⟨rfl, rfl⟩)
  go_ret
  exact ⟨ret_int (by rw [HS.out]), hbel'⟩
/-- A number as one from 0 to n - 1. -/
theorem place_any (v n : Int) (w : World) (h : 0 < n) (h' : n ≤ 9223372036854775807) :
    Calls Try.prog 20 #[.int .i64 v, .int .i64 n] w fun e w' => e = .returned (.int .i64 (v % n)) ∧ w = w' := by
  have hm := Int.emod_nonneg v (show n ≠ 0 by omega)
  have hm2 := Int.emod_lt_of_pos v h
  have ht : 0 ≤ v.tmod n ∧ v % n = v.tmod n ∨ v.tmod n < 0 ∧ v % n = v.tmod n + n := by
    have h1 := Int.tmod_eq_emod (a := v) (b := n)
    split at h1 <;> omega
  have hb : -9223372036854775808 ≤ v.tmod n ∧ v.tmod n ≤ 9223372036854775807 := by omega
  obtain ⟨hb1, hb2⟩ := hb
  have hn0 : n ≠ 0 := by omega
  rcases ht with ⟨ht, he⟩ | ⟨ht, he⟩
  · have He := Lib.hid he
    clear he hm hm2
    go_enter Try.func20, Try.ntmps20
    go_wp2
    go_ret
    exact ⟨ret_int (by rw [He.out]), rfl⟩
  · have He := Lib.hid he
    clear he hm hm2
    go_enter Try.func20, Try.ntmps20
    go_wp2
    go_ret
    exact ⟨ret_int (by rw [He.out]), rfl⟩
/-! numbers of a row -/
open Tab in
/-- A row of numbers, at a place; 0 behind the end. -/
def num (L : List Int) (i : Int) (n : Int) : Int := L.getD i.toNat 0 % n
open Tab in
theorem at_any (a : Option Addr) (cap : Nat) (L : List Int) (i : Int) (w : World) (h : IntRow w ⟨a, cap⟩ L) (h0 : 0 ≤ i) :
    Calls Try.prog 67 #[.slice a L.length cap, .int .i64 i] w fun e w' => e = .returned (.int .i64 (L.getD i.toNat 0)) ∧ w = w' := by
  have hl := h.len
  unfold maxLen at hl
  obtain ⟨k, rfl⟩ := Int.eq_ofNat_of_zero_le h0
  by_cases hk : k < L.length
  · have hv := List.getElem?_eq_getElem hk
    generalize hu : L[k] = u at hv
    obtain ⟨x, hx, hc⟩ := IntRow.at h hv
    obtain rfl : a = some x := hx
    have HE : Hid (u = L.getD ((k : Int)).toNat 0) := Lib.hid (by rw [Int.toNat_natCast, List.getD_eq_getElem?_getD, hv]; rfl)
    generalize L.getD ((k : Int)).toNat 0 = r at HE ⊢
    clear hv hu h
    go_enter Try.func67, Try.ntmps67
    go_wp2
    go_ret
    exact ⟨ret_int HE.out, rfl⟩
  · have HE : Hid (0 = L.getD ((k : Int)).toNat 0) := Lib.hid (by rw [Int.toNat_natCast, List.getD_eq_getElem?_getD, List.getElem?_eq_none (by omega)]; rfl)
    generalize L.getD ((k : Int)).toNat 0 = r at HE ⊢
    clear h
    go_enter Try.func67, Try.ntmps67
    go_wp2
    go_ret
    exact ⟨ret_int HE.out, rfl⟩
open Tab in
theorem from_any (a : Option Addr) (cap : Nat) (L : List Int) (i n : Int) (w : World) (h : IntRow w ⟨a, cap⟩ L) (h0 : 0 ≤ i) (hn : 0 < n) (hn' : n ≤ 1000) :
    Calls Try.prog 46 #[.slice a L.length cap, .int .i64 i, .int .i64 n] w fun e w' => e = .returned (.int .i64 (num L i n)) ∧ w = w' := by
  have H := Lib.hid h
  clear h
  go_enter Try.func46, Try.ntmps46
  go_wp2_with fail
  refine (at_any a cap L i w H.out h0).mono ?_
  rintro e w' ⟨rfl, rfl⟩
  have HE : Hid (L.getD i.toNat 0 % n = num L i n) := Lib.hid rfl
  generalize L.getD i.toNat 0 = v at HE ⊢
  go_wp2_with fail
  refine (place_any v n _ hn (by omega)).mono ?_
  rintro e w' ⟨rfl, rfl⟩
  go_wp2
  go_ret
  exact ⟨ret_int HE.out, rfl⟩
theorem num_range (L : List Int) (i n : Int) (hn : 0 < n) : 0 ≤ num L i n ∧ num L i n < n := ⟨Int.emod_nonneg _ (by omega), Int.emod_lt_of_pos _ hn⟩
end RefS
namespace Dtc
open Go.ChangeShapes Go.WideShapes Go.ChangeAt Go.RowKit
open Tab Flat TabArg Copy Go.Proofs.Fl
open Lvl (Lv stp failed)
open Dig (Wd wat stk)
open Dly (Tm tmr)
/-- Whom the first q detectors call. -/
def her (ds : List Det) (l : List Ch) : Nat → Nat
  | 0 => 0
  | q + 1 => if out (ds.getD q default) (l.getD q zCh) = true then SetM.withN (her ds l q : Nat) (ds.getD q default).phase else her ds l q
theorem her_lt (ds : List Det) (l : List Ch) : ∀ q, her ds l q < 256
  | 0 => by show 0 < 256; decide
  | q + 1 => by unfold her; split; exact SetM.with_lt _ _; exact her_lt ds l q
theorem or_with (s : Nat) (p : Int) (h : s < 256) : bits .or .i64 (s : Int) (SetM.bit p) = (SetM.withN (s : Nat) p : Int) := by
  show IntKind.i64.wrap ((BitVec.ofInt 64 (s : Int) ||| BitVec.ofInt 64 (SetM.bit p : Int)).toNat : Nat) = _
  rw [BitVec.toNat_or, SetM.toNat_ofNat s h, SetM.toNat_ofNat _ (SetM.bit_lt p), SetM.wrap_small _ (Nat.or_lt_two_pow (n := 8) h (SetM.bit_lt p))]
  unfold SetM.withN
  rw [SetM.low_nat s h]
/-- A whole row is loaded in a walk by a class. -/
theorem wpQuiet_load {P : Program} {C : World → Prop} {ops : Array Oper} {Q : Act → Prop} {a : Act} {o : Oper} {rest : List Oper} (hw : Region.wanted o (yielded ops a.tmps) = true) (ty : TypeId) (x : Operand) (ho : o.op = .load ty x) (y : Addr) (hx : a.eval x = .pointer (some y))
    (cs : List Value) (d : TypeDesc) (hc : ∀ w, C w → Lies w y cs) (hu : P.underlying ty = some d) (hd : d.isRow = true) (hi : (P.info? ty).map (·.size) = some cs.length) (h : wpQuiet P ops C Q rest (a.put o.dst (.agg cs.toArray))) : wpQuiet P ops C Q (o :: rest) a :=
  wpQuiet_step fun K hK => by
    rw [if_pos hw]
    refine ⟨_, fun w hw' => ?_, hK _ h⟩
    unfold Oper.quietAt execOp
    simp only [ho, hx, Instr.loadAt, Instr.sureAddr, Sem.run_bind, Sem.run_pure, Result.andThen_ok, Row.run_loadVar_lies w y ty cs d (hc w hw') hu hd hi]
    exact ⟨rfl, rfl⟩
theorem here_any {T : Tab} {hd : Hd} {w : World} (ht : IsTab w hd T) {a : Option Addr} {cap : Nat} {l : List Ch} (hl : RowOf 7 Ch.cells w ⟨a, cap⟩ l) :
    Calls Try.prog 28 #[.agg (T.cells hd).toArray, .slice a l.length cap] w fun e w' => e = .returned (.int .i64 (her T.dets l (min T.dets.length l.length) : Nat)) ∧ Below w.heap.size w w' := by
  have CK := Lib.hid (cells_ok ht)
  have HR := Lib.hid ht.dets
  have HL := Lib.hid hl
  have hll := hl.len
  have hdd := ht.dets.len
  have q113 := CK.out.d
  generalize (T.cells hd).toArray = tc at *
  obtain ⟨sg, ⟨da, dcap⟩, sr, sb⟩ := hd
  generalize T.dets = ds at *
  have HLT := Lib.hid (her_lt ds l)
  have HS : Hid (∀ (q : Nat) (d : Det) (c : Ch) (r : Bool), ds[q]? = some d → l[q]? = some c → out d c = r → her ds l (q + 1) = if r = true then SetM.withN (her ds l q : Nat) d.phase else her ds l q) := Lib.hid (fun q d c r h1 h2 h3 => by
    show (if out (ds.getD q default) (l.getD q zCh) = true then _ else _) = _
    rw [List.getD_eq_getElem?_getD (l := ds), List.getD_eq_getElem?_getD (l := l), h1, h2, Option.getD_some, Option.getD_some, h3])
  have H0 : Hid (her ds l 0 = 0) := Lib.hid rfl
  generalize her ds l = hh at *
  generalize hn : ds.length = n at *
  have HN := Lib.hid hn
  generalize hn1 : l.length = n1 at *
  have HN1 := Lib.hid hn1
  unfold maxLen at hll hdd
  obtain ⟨hl1, hl2⟩ := hll
  obtain ⟨hd1, hd2⟩ := hdd
  clear hn hn1 CK ht hl
  have h0 := (Blk.Bks.nil w).alloc tc 31
  obtain ⟨m, hm⟩ : ∃ m, min n n1 = m := ⟨_, rfl⟩
  have hm1 : m ≤ n := by omega
  have hm2 : m ≤ n1 := by omega
  rw [hm]
  go_enter Try.func28, Try.ntmps28
  go_upto_region 1 with fail
  generalize World.alloc w _ = u at h0 ⊢
  generalize w.heap.size = gt at h0 ⊢
  have HB0 := Lib.hid h0
  clear h0
  have k113 : u.cell? ⟨gt, 113, none⟩ = some (.slice da n dcap) := HB0.out.cell 0 113 rfl q113
  rcases Nat.lt_or_ge n1 n with hx | hx
  · have HM : Hid ((n1 : Int) = (m : Int)) := Lib.hid (by omega)
    clear hm
    go_upto_region 3 with fail
    rw [HM.out]
    clear k113 hx HM
    go_wp2_with fail
    go_loopw [5, 14] (fun v i wr => ∃ (q : Nat), q ≤ m ∧ i = .int .i64 q ∧ v = .int .i64 (hh q : Nat) ∧ Blk.Bks w [(gt, tc, 31)] wr) (fun _ i _ => m - (intOf i).toNat)
    case atStart => exact ⟨0, by omega, rfl, by rw [H0.out]; rfl, HB0.out⟩
    case round =>
      clear HB0
      obtain ⟨q, hq, rfl, rfl, hB⟩ := hrel
      have HB := Lib.hid hB
      clear hB
      have k113 : wr.cell? ⟨gt, 113, none⟩ = some (.slice da n dcap) := HB.out.cell 0 113 rfl q113
      by_cases hlt : q < m
      · obtain ⟨d, hd⟩ : ∃ d, ds[q]? = some d := ⟨_, List.getElem?_eq_getElem (by rw [HN.out]; omega)⟩
        obtain ⟨c, hc⟩ : ∃ c, l[q]? = some c := ⟨_, List.getElem?_eq_getElem (by rw [HN1.out]; omega)⟩
        obtain ⟨y, hy, hly⟩ := HR.out.at hd
        obtain ⟨z, hz, hlz⟩ := HL.out.at hc
        obtain rfl : da = some y := hy
        obtain rfl : a = some z := hz
        obtain ⟨r, hr⟩ : ∃ r, out d c = r := ⟨_, rfl⟩
        have HST := Lib.hid (HS.out q d c r hd hc hr)
        have HLQ := Lib.hid (HLT.out q)
        clear HS hd hc H0
        obtain ⟨ph, on, off, dl, ex, mo, mf⟩ := d
        obtain ⟨⟨b, n'⟩, ⟨wa, wb⟩, h, t, o⟩ := c
        dsimp only at HST
        have HRR := Lib.hid hr
        have HLY := Lib.hid (Lies.below hly HB.out.bel)
        have HLZ := Lib.hid hlz
        clear hly hlz hr
        go_upto_region 6 with (first | (refine Row.wpList_load_lies rfl 65 _ rfl (y.add (q * 7)) rfl (Det.cells ⟨ph, on, off, dl, ex, mo, mf⟩) _ HLY.out Try.underlying65 rfl infoD ?_) | (refine Row.wpList_store_new rfl 65 _ _ rfl _ _ #[I ph, F on, F off, F dl, F ex, I mo, I mf] rfl rfl rfl infoD rfl (by simp [Value.oneCell']) ?_))
        have hr := HB.out.alloc #[I ph, F on, F off, F dl, F ex, I mo, I mf] 65
        generalize World.alloc wr _ = W1 at hr ⊢
        generalize wr.heap.size = gd at hr ⊢
        have HB1 := Lib.hid hr
        clear hr HLY k113 HB
        have HZQ : Hid (∀ w', (∃ p : QB.By W1.heap.size W1, w' = p.world) → Lies w' (z.add (q * 7)) (Ch.cells ⟨⟨b, n'⟩, ⟨wa, wb⟩, h, t, o⟩)) := Lib.hid (fun w' ⟨p, e⟩ => by rw [e]; exact Lies.below HLZ.out (HB1.out.by p).bel)
        have k0_0 : ∀ p : QB.By W1.heap.size W1, p.world.cell? ⟨gd, 0, none⟩ = some (I ph) := fun p => (HB1.out.by p).cell 0 0 rfl rfl
        have k0_1 : ∀ p : QB.By W1.heap.size W1, p.world.cell? ⟨gd, 1, none⟩ = some (F on) := fun p => (HB1.out.by p).cell 0 1 rfl rfl
        have k0_2 : ∀ p : QB.By W1.heap.size W1, p.world.cell? ⟨gd, 2, none⟩ = some (F off) := fun p => (HB1.out.by p).cell 0 2 rfl rfl
        have k0_3 : ∀ p : QB.By W1.heap.size W1, p.world.cell? ⟨gd, 3, none⟩ = some (F dl) := fun p => (HB1.out.by p).cell 0 3 rfl rfl
        have k0_4 : ∀ p : QB.By W1.heap.size W1, p.world.cell? ⟨gd, 4, none⟩ = some (F ex) := fun p => (HB1.out.by p).cell 0 4 rfl rfl
        have k0_5 : ∀ p : QB.By W1.heap.size W1, p.world.cell? ⟨gd, 5, none⟩ = some (I mo) := fun p => (HB1.out.by p).cell 0 5 rfl rfl
        have k0_6 : ∀ p : QB.By W1.heap.size W1, p.world.cell? ⟨gd, 6, none⟩ = some (I mf) := fun p => (HB1.out.by p).cell 0 6 rfl rfl
        have hqn : q < n1 := by omega
        refine QB.region_below W1.heap.size (by kernel_rfl) (by kernel_rfl) ?_
        quiet_step (fail)
        quiet_step (fail)
        quiet_step (fail)
        quiet_step (fail)
        refine wpQuiet_load rfl 75 _ rfl (z.add (q * 7)) rfl (Ch.cells ⟨⟨b, n'⟩, ⟨wa, wb⟩, h, t, o⟩) _ HZQ.out Try.underlying75 rfl infoC ?_
        dsimp only [Act.put, Ch.cells]
        simp only [List.setIfInBounds_toArray, List.set_cons_zero, List.set_cons_succ]
        quiet_step ((go_at_call 58; exact QB.call_of (Nat.le_refl _) (fun b => calls_is HRR.out _)))
        refine wpQuiet_nil ?_
        intro _ hw'
        obtain ⟨p, rfl⟩ := hw'
        have HB2 := Lib.hid (HB1.out.by p)
        clear HB1 HZQ k0_0 k0_1 k0_2 k0_3 k0_4 k0_5 k0_6
        generalize p.world = W2 at HB2 ⊢
        cases r
        · have HB3 := Lib.hid HB2.out.drop
          simp only [Bool.false_eq_true, if_false] at HST
          go_wp2
          go_roundw
          case rel => exact ⟨q + 1, by omega, by go_num, by rw [HST.out], HB3.out⟩
          case measure => simp [intOf]; omega
        · have kp : W2.cell? ⟨gd, 0, none⟩ = some (I ph) := HB2.out.cell 0 0 rfl rfl
          have HB3 := Lib.hid HB2.out.drop
          rw [if_pos rfl] at HST
          have HOR := Lib.hid (or_with (hh q) ph HLQ.out)
          go_wp2_with (go_at_call 59; refine (bit_any _ _).mono ?_; rintro e w' ⟨rfl, rfl⟩)
          go_roundw
          case rel => exact ⟨q + 1, by omega, by go_num, by rw [HST.out, HOR.out], HB3.out⟩
          case measure => simp [intOf]; omega
      · obtain rfl : q = m := by omega
        have HBB := Lib.hid HB.out.bel
        go_wp2
        go_ret
        exact ⟨rfl, HBB.out⟩
  · have HM : Hid ((n : Int) = (m : Int)) := Lib.hid (by omega)
    clear hm
    go_upto_region 3 with fail
    rw [HM.out]
    clear k113 hx HM
    go_wp2_with fail
    go_loopw [5, 14] (fun v i wr => ∃ (q : Nat), q ≤ m ∧ i = .int .i64 q ∧ v = .int .i64 (hh q : Nat) ∧ Blk.Bks w [(gt, tc, 31)] wr) (fun _ i _ => m - (intOf i).toNat)
    case atStart => exact ⟨0, by omega, rfl, by rw [H0.out]; rfl, HB0.out⟩
    case round =>
      clear HB0
      obtain ⟨q, hq, rfl, rfl, hB⟩ := hrel
      have HB := Lib.hid hB
      clear hB
      have k113 : wr.cell? ⟨gt, 113, none⟩ = some (.slice da n dcap) := HB.out.cell 0 113 rfl q113
      by_cases hlt : q < m
      · obtain ⟨d, hd⟩ : ∃ d, ds[q]? = some d := ⟨_, List.getElem?_eq_getElem (by rw [HN.out]; omega)⟩
        obtain ⟨c, hc⟩ : ∃ c, l[q]? = some c := ⟨_, List.getElem?_eq_getElem (by rw [HN1.out]; omega)⟩
        obtain ⟨y, hy, hly⟩ := HR.out.at hd
        obtain ⟨z, hz, hlz⟩ := HL.out.at hc
        obtain rfl : da = some y := hy
        obtain rfl : a = some z := hz
        obtain ⟨r, hr⟩ : ∃ r, out d c = r := ⟨_, rfl⟩
        have HST := Lib.hid (HS.out q d c r hd hc hr)
        have HLQ := Lib.hid (HLT.out q)
        clear HS hd hc H0
        obtain ⟨ph, on, off, dl, ex, mo, mf⟩ := d
        obtain ⟨⟨b, n'⟩, ⟨wa, wb⟩, h, t, o⟩ := c
        dsimp only at HST
        have HRR := Lib.hid hr
        have HLY := Lib.hid (Lies.below hly HB.out.bel)
        have HLZ := Lib.hid hlz
        clear hly hlz hr
        go_upto_region 6 with (first | (refine Row.wpList_load_lies rfl 65 _ rfl (y.add (q * 7)) rfl (Det.cells ⟨ph, on, off, dl, ex, mo, mf⟩) _ HLY.out Try.underlying65 rfl infoD ?_) | (refine Row.wpList_store_new rfl 65 _ _ rfl _ _ #[I ph, F on, F off, F dl, F ex, I mo, I mf] rfl rfl rfl infoD rfl (by simp [Value.oneCell']) ?_))
        have hr := HB.out.alloc #[I ph, F on, F off, F dl, F ex, I mo, I mf] 65
        generalize World.alloc wr _ = W1 at hr ⊢
        generalize wr.heap.size = gd at hr ⊢
        have HB1 := Lib.hid hr
        clear hr HLY k113 HB
        have HZQ : Hid (∀ w', (∃ p : QB.By W1.heap.size W1, w' = p.world) → Lies w' (z.add (q * 7)) (Ch.cells ⟨⟨b, n'⟩, ⟨wa, wb⟩, h, t, o⟩)) := Lib.hid (fun w' ⟨p, e⟩ => by rw [e]; exact Lies.below HLZ.out (HB1.out.by p).bel)
        have k0_0 : ∀ p : QB.By W1.heap.size W1, p.world.cell? ⟨gd, 0, none⟩ = some (I ph) := fun p => (HB1.out.by p).cell 0 0 rfl rfl
        have k0_1 : ∀ p : QB.By W1.heap.size W1, p.world.cell? ⟨gd, 1, none⟩ = some (F on) := fun p => (HB1.out.by p).cell 0 1 rfl rfl
        have k0_2 : ∀ p : QB.By W1.heap.size W1, p.world.cell? ⟨gd, 2, none⟩ = some (F off) := fun p => (HB1.out.by p).cell 0 2 rfl rfl
        have k0_3 : ∀ p : QB.By W1.heap.size W1, p.world.cell? ⟨gd, 3, none⟩ = some (F dl) := fun p => (HB1.out.by p).cell 0 3 rfl rfl
        have k0_4 : ∀ p : QB.By W1.heap.size W1, p.world.cell? ⟨gd, 4, none⟩ = some (F ex) := fun p => (HB1.out.by p).cell 0 4 rfl rfl
        have k0_5 : ∀ p : QB.By W1.heap.size W1, p.world.cell? ⟨gd, 5, none⟩ = some (I mo) := fun p => (HB1.out.by p).cell 0 5 rfl rfl
        have k0_6 : ∀ p : QB.By W1.heap.size W1, p.world.cell? ⟨gd, 6, none⟩ = some (I mf) := fun p => (HB1.out.by p).cell 0 6 rfl rfl
        have hqn : q < n1 := by omega
        refine QB.region_below W1.heap.size (by kernel_rfl) (by kernel_rfl) ?_
        quiet_step (fail)
        quiet_step (fail)
        quiet_step (fail)
        quiet_step (fail)
        refine wpQuiet_load rfl 75 _ rfl (z.add (q * 7)) rfl (Ch.cells ⟨⟨b, n'⟩, ⟨wa, wb⟩, h, t, o⟩) _ HZQ.out Try.underlying75 rfl infoC ?_
        dsimp only [Act.put, Ch.cells]
        simp only [List.setIfInBounds_toArray, List.set_cons_zero, List.set_cons_succ]
        quiet_step ((go_at_call 58; exact QB.call_of (Nat.le_refl _) (fun b => calls_is HRR.out _)))
        refine wpQuiet_nil ?_
        intro _ hw'
        obtain ⟨p, rfl⟩ := hw'
        have HB2 := Lib.hid (HB1.out.by p)
        clear HB1 HZQ k0_0 k0_1 k0_2 k0_3 k0_4 k0_5 k0_6
        generalize p.world = W2 at HB2 ⊢
        cases r
        · have HB3 := Lib.hid HB2.out.drop
          simp only [Bool.false_eq_true, if_false] at HST
          go_wp2
          go_roundw
          case rel => exact ⟨q + 1, by omega, by go_num, by rw [HST.out], HB3.out⟩
          case measure => simp [intOf]; omega
        · have kp : W2.cell? ⟨gd, 0, none⟩ = some (I ph) := HB2.out.cell 0 0 rfl rfl
          have HB3 := Lib.hid HB2.out.drop
          rw [if_pos rfl] at HST
          have HOR := Lib.hid (or_with (hh q) ph HLQ.out)
          go_wp2_with (go_at_call 59; refine (bit_any _ _).mono ?_; rintro e w' ⟨rfl, rfl⟩)
          go_roundw
          case rel => exact ⟨q + 1, by omega, by go_num, by rw [HST.out, HOR.out], HB3.out⟩
          case measure => simp [intOf]; omega
      · obtain rfl : q = m := by omega
        have HBB := Lib.hid HB.out.bel
        go_wp2
        go_ret
        exact ⟨rfl, HBB.out⟩
theorem rhere_any {T : Tab} {hd : Hd} {w : World} (ht : IsTab w hd T) {a : Option Addr} {cap : Nat} {l : List Ch} (hl : RowOf 7 Ch.cells w ⟨a, cap⟩ l) :
    Calls Try.prog 29 #[.agg (T.cells hd).toArray, .slice a l.length cap] w fun e w' => e = .returned (.int .i64 (her T.dets l (min T.dets.length l.length) : Nat)) ∧ Below w.heap.size w w' := by
  have CK := Lib.hid (cells_ok ht)
  have HR := Lib.hid ht.dets
  have HL := Lib.hid hl
  have hll := hl.len
  have hdd := ht.dets.len
  have q113 := CK.out.d
  generalize (T.cells hd).toArray = tc at *
  obtain ⟨sg, ⟨da, dcap⟩, sr, sb⟩ := hd
  generalize T.dets = ds at *
  have HLT := Lib.hid (her_lt ds l)
  have HS : Hid (∀ (q : Nat) (d : Det) (c : Ch) (r : Bool), ds[q]? = some d → l[q]? = some c → out d c = r → her ds l (q + 1) = if r = true then SetM.withN (her ds l q : Nat) d.phase else her ds l q) := Lib.hid (fun q d c r h1 h2 h3 => by
    show (if out (ds.getD q default) (l.getD q zCh) = true then _ else _) = _
    rw [List.getD_eq_getElem?_getD (l := ds), List.getD_eq_getElem?_getD (l := l), h1, h2, Option.getD_some, Option.getD_some, h3])
  have H0 : Hid (her ds l 0 = 0) := Lib.hid rfl
  generalize her ds l = hh at *
  generalize hn : ds.length = n at *
  have HN := Lib.hid hn
  generalize hn1 : l.length = n1 at *
  have HN1 := Lib.hid hn1
  unfold maxLen at hll hdd
  obtain ⟨hl1, hl2⟩ := hll
  obtain ⟨hd1, hd2⟩ := hdd
  clear hn hn1 CK ht hl
  have h0 := (Blk.Bks.nil w).alloc tc 31
  obtain ⟨m, hm⟩ : ∃ m, min n n1 = m := ⟨_, rfl⟩
  have hm1 : m ≤ n := by omega
  have hm2 : m ≤ n1 := by omega
  have hm3 : n ≤ m ∨ n1 ≤ m := by omega
  rw [hm]
  clear hm
  go_enter Try.func29, Try.ntmps29
  go_upto_region 1 with fail
  generalize World.alloc w _ = u at h0 ⊢
  generalize w.heap.size = gt at h0 ⊢
  have HB0 := Lib.hid h0
  clear h0
  go_wp2_with fail
  go_loopw [5, 6] (fun v i wr => ∃ (q : Nat), q ≤ m ∧ i = .int .i64 q ∧ v = .int .i64 (hh q : Nat) ∧ Blk.Bks w [(gt, tc, 31)] wr) (fun _ i _ => m - (intOf i).toNat)
  case atStart => exact ⟨0, by omega, rfl, by rw [H0.out]; rfl, HB0.out⟩
  case round =>
    clear HB0
    obtain ⟨q, hq, rfl, rfl, hB⟩ := hrel
    have HB := Lib.hid hB
    clear hB
    have k113 : wr.cell? ⟨gt, 113, none⟩ = some (.slice da n dcap) := HB.out.cell 0 113 rfl q113
    by_cases hlt : q < m
    · have hqn : q < n := by omega
      have hqn1 : q < n1 := by omega
      obtain ⟨d, hd⟩ : ∃ d, ds[q]? = some d := ⟨_, List.getElem?_eq_getElem (by rw [HN.out]; omega)⟩
      obtain ⟨c, hc⟩ : ∃ c, l[q]? = some c := ⟨_, List.getElem?_eq_getElem (by rw [HN1.out]; omega)⟩
      obtain ⟨y, hy, hly⟩ := HR.out.at hd
      obtain ⟨z, hz, hlz⟩ := HL.out.at hc
      obtain rfl : da = some y := hy
      obtain rfl : a = some z := hz
      obtain ⟨r, hr⟩ : ∃ r, out d c = r := ⟨_, rfl⟩
      have HST := Lib.hid (HS.out q d c r hd hc hr)
      have HLQ := Lib.hid (HLT.out q)
      clear HS hd hc H0
      obtain ⟨ph, on, off, dl, ex, mo, mf⟩ := d
      obtain ⟨⟨b, n'⟩, ⟨wa, wb⟩, h, t, o⟩ := c
      dsimp only at HST
      have HRR := Lib.hid hr
      have HLY := Lib.hid (Lies.below hly HB.out.bel)
      have HLZ := Lib.hid hlz
      clear hly hlz hr
      go_upto_region 6 with (first | (refine Row.wpList_load_lies rfl 65 _ rfl (y.add (q * 7)) rfl (Det.cells ⟨ph, on, off, dl, ex, mo, mf⟩) _ HLY.out Try.underlying65 rfl infoD ?_) | (refine Row.wpList_store_new rfl 65 _ _ rfl _ _ #[I ph, F on, F off, F dl, F ex, I mo, I mf] rfl rfl rfl infoD rfl (by simp [Value.oneCell']) ?_))
      have hr := HB.out.alloc #[I ph, F on, F off, F dl, F ex, I mo, I mf] 65
      generalize World.alloc wr _ = W1 at hr ⊢
      generalize wr.heap.size = gd at hr ⊢
      have HB1 := Lib.hid hr
      clear hr HLY k113 HB
      unfold out at HRR
      dsimp only at HRR
      have hr := HRR.out
      clear HRR
      obtain ⟨fl, hf⟩ : ∃ r, failed ⟨b, n'⟩ = r := ⟨_, rfl⟩
      obtain ⟨sk, hk⟩ : ∃ r, stk mo mf ⟨wa, wb⟩ = r := ⟨_, rfl⟩
      rw [hf, hk] at hr
      have HF := Lib.hid hf
      have HK := Lib.hid hk
      clear hf hk
      cases o
      · cases fl
        · obtain rfl : sk = r := by simpa using hr
          have k0_0 : ∀ p : QB.By W1.heap.size W1, p.world.cell? ⟨gd, 0, none⟩ = some (I ph) := fun p => (HB1.out.by p).cell 0 0 rfl rfl
          have k0_1 : ∀ p : QB.By W1.heap.size W1, p.world.cell? ⟨gd, 1, none⟩ = some (F on) := fun p => (HB1.out.by p).cell 0 1 rfl rfl
          have k0_2 : ∀ p : QB.By W1.heap.size W1, p.world.cell? ⟨gd, 2, none⟩ = some (F off) := fun p => (HB1.out.by p).cell 0 2 rfl rfl
          have k0_3 : ∀ p : QB.By W1.heap.size W1, p.world.cell? ⟨gd, 3, none⟩ = some (F dl) := fun p => (HB1.out.by p).cell 0 3 rfl rfl
          have k0_4 : ∀ p : QB.By W1.heap.size W1, p.world.cell? ⟨gd, 4, none⟩ = some (F ex) := fun p => (HB1.out.by p).cell 0 4 rfl rfl
          have k0_5 : ∀ p : QB.By W1.heap.size W1, p.world.cell? ⟨gd, 5, none⟩ = some (I mo) := fun p => (HB1.out.by p).cell 0 5 rfl rfl
          have k0_6 : ∀ p : QB.By W1.heap.size W1, p.world.cell? ⟨gd, 6, none⟩ = some (I mf) := fun p => (HB1.out.by p).cell 0 6 rfl rfl
          have z0 : ∀ p : QB.By W1.heap.size W1, p.world.cell? (z.add (q * 7)) = some (Value.bool b) := fun p => by have := Lies.below HLZ.out (HB1.out.by p).bel 0 _ rfl; rwa [Tab.add_zero] at this
          have z1 : ∀ p : QB.By W1.heap.size W1, p.world.cell? ⟨(z.add (q * 7)).block, (z.add (q * 7)).off + 1, none⟩ = some (I n') := fun p => by have := Lies.below HLZ.out (HB1.out.by p).bel 1 _ rfl; simpa [Addr.add] using this
          have z2 : ∀ p : QB.By W1.heap.size W1, p.world.cell? ⟨(z.add (q * 7)).block, (z.add (q * 7)).off + 2, none⟩ = some (I wa) := fun p => by have := Lies.below HLZ.out (HB1.out.by p).bel 2 _ rfl; simpa [Addr.add] using this
          have z3 : ∀ p : QB.By W1.heap.size W1, p.world.cell? ⟨(z.add (q * 7)).block, (z.add (q * 7)).off + 3, none⟩ = some (I wb) := fun p => by have := Lies.below HLZ.out (HB1.out.by p).bel 3 _ rfl; simpa [Addr.add] using this
          have z4 : ∀ p : QB.By W1.heap.size W1, p.world.cell? ⟨(z.add (q * 7)).block, (z.add (q * 7)).off + 4, none⟩ = some (I h) := fun p => by have := Lies.below HLZ.out (HB1.out.by p).bel 4 _ rfl; simpa [Addr.add] using this
          have z5 : ∀ p : QB.By W1.heap.size W1, p.world.cell? ⟨(z.add (q * 7)).block, (z.add (q * 7)).off + 5, none⟩ = some (I t) := fun p => by have := Lies.below HLZ.out (HB1.out.by p).bel 5 _ rfl; simpa [Addr.add] using this
          have z6 : ∀ p : QB.By W1.heap.size W1, p.world.cell? ⟨(z.add (q * 7)).block, (z.add (q * 7)).off + 6, none⟩ = some (Value.bool false) := fun p => by have := Lies.below HLZ.out (HB1.out.by p).bel 6 _ rfl; simpa [Addr.add] using this
          refine QB.region_below W1.heap.size (by kernel_rfl) (by kernel_rfl) ?_
          dsimp only [Act.put]
          repeat (go_big_quiet_step (first
            | (go_at_call 60; exact QB.call_of (Nat.le_refl _) (fun b => (HF.out ▸ Lvl.rfailed_is _)))
            | (go_at_call 61; exact QB.call_of (Nat.le_refl _) (fun b => Dig.rstuck_is HK.out _))))
          cases sk
          · refine wpQuiet_nil ?_
            intro _ hw'
            obtain ⟨p, rfl⟩ := hw'
            have HB2 := Lib.hid (HB1.out.by p)
            clear HB1 z0 z1 z2 z3 z4 z5 z6 k0_0 k0_1 k0_2 k0_3 k0_4 k0_5 k0_6
            generalize p.world = W2 at HB2 ⊢
            have HB3 := Lib.hid HB2.out.drop
            simp only [Bool.false_eq_true, if_false] at HST
            go_wp2
            go_roundw
            case rel => exact ⟨q + 1, by omega, by go_num, by rw [HST.out], HB3.out⟩
            case measure => simp [intOf]; omega
          · refine wpQuiet_nil ?_
            intro _ hw'
            obtain ⟨p, rfl⟩ := hw'
            have HB2 := Lib.hid (HB1.out.by p)
            clear HB1 z0 z1 z2 z3 z4 z5 z6 k0_0 k0_1 k0_2 k0_3 k0_4 k0_5 k0_6
            generalize p.world = W2 at HB2 ⊢
            have kp : W2.cell? ⟨gd, 0, none⟩ = some (I ph) := HB2.out.cell 0 0 rfl rfl
            rw [if_pos rfl] at HST
            go_wp2_with fail
            refine (RefS.rwith_any _ _ _).mono ?_
            rintro e W3 ⟨rfl, b3⟩
            have HB3 := Lib.hid (HB2.out.step b3).drop
            clear kp b3 HB2
            go_wp2
            go_roundw
            case rel => exact ⟨q + 1, by omega, by go_num, by rw [HST.out], HB3.out⟩
            case measure => simp [intOf]; omega
        · obtain rfl : true = r := by simpa using hr
          have k0_0 : ∀ p : QB.By W1.heap.size W1, p.world.cell? ⟨gd, 0, none⟩ = some (I ph) := fun p => (HB1.out.by p).cell 0 0 rfl rfl
          have k0_1 : ∀ p : QB.By W1.heap.size W1, p.world.cell? ⟨gd, 1, none⟩ = some (F on) := fun p => (HB1.out.by p).cell 0 1 rfl rfl
          have k0_2 : ∀ p : QB.By W1.heap.size W1, p.world.cell? ⟨gd, 2, none⟩ = some (F off) := fun p => (HB1.out.by p).cell 0 2 rfl rfl
          have k0_3 : ∀ p : QB.By W1.heap.size W1, p.world.cell? ⟨gd, 3, none⟩ = some (F dl) := fun p => (HB1.out.by p).cell 0 3 rfl rfl
          have k0_4 : ∀ p : QB.By W1.heap.size W1, p.world.cell? ⟨gd, 4, none⟩ = some (F ex) := fun p => (HB1.out.by p).cell 0 4 rfl rfl
          have k0_5 : ∀ p : QB.By W1.heap.size W1, p.world.cell? ⟨gd, 5, none⟩ = some (I mo) := fun p => (HB1.out.by p).cell 0 5 rfl rfl
          have k0_6 : ∀ p : QB.By W1.heap.size W1, p.world.cell? ⟨gd, 6, none⟩ = some (I mf) := fun p => (HB1.out.by p).cell 0 6 rfl rfl
          have z0 : ∀ p : QB.By W1.heap.size W1, p.world.cell? (z.add (q * 7)) = some (Value.bool b) := fun p => by have := Lies.below HLZ.out (HB1.out.by p).bel 0 _ rfl; rwa [Tab.add_zero] at this
          have z1 : ∀ p : QB.By W1.heap.size W1, p.world.cell? ⟨(z.add (q * 7)).block, (z.add (q * 7)).off + 1, none⟩ = some (I n') := fun p => by have := Lies.below HLZ.out (HB1.out.by p).bel 1 _ rfl; simpa [Addr.add] using this
          have z2 : ∀ p : QB.By W1.heap.size W1, p.world.cell? ⟨(z.add (q * 7)).block, (z.add (q * 7)).off + 2, none⟩ = some (I wa) := fun p => by have := Lies.below HLZ.out (HB1.out.by p).bel 2 _ rfl; simpa [Addr.add] using this
          have z3 : ∀ p : QB.By W1.heap.size W1, p.world.cell? ⟨(z.add (q * 7)).block, (z.add (q * 7)).off + 3, none⟩ = some (I wb) := fun p => by have := Lies.below HLZ.out (HB1.out.by p).bel 3 _ rfl; simpa [Addr.add] using this
          have z4 : ∀ p : QB.By W1.heap.size W1, p.world.cell? ⟨(z.add (q * 7)).block, (z.add (q * 7)).off + 4, none⟩ = some (I h) := fun p => by have := Lies.below HLZ.out (HB1.out.by p).bel 4 _ rfl; simpa [Addr.add] using this
          have z5 : ∀ p : QB.By W1.heap.size W1, p.world.cell? ⟨(z.add (q * 7)).block, (z.add (q * 7)).off + 5, none⟩ = some (I t) := fun p => by have := Lies.below HLZ.out (HB1.out.by p).bel 5 _ rfl; simpa [Addr.add] using this
          have z6 : ∀ p : QB.By W1.heap.size W1, p.world.cell? ⟨(z.add (q * 7)).block, (z.add (q * 7)).off + 6, none⟩ = some (Value.bool false) := fun p => by have := Lies.below HLZ.out (HB1.out.by p).bel 6 _ rfl; simpa [Addr.add] using this
          refine QB.region_below W1.heap.size (by kernel_rfl) (by kernel_rfl) ?_
          dsimp only [Act.put]
          repeat (go_big_quiet_step (first
            | (go_at_call 60; exact QB.call_of (Nat.le_refl _) (fun b => (HF.out ▸ Lvl.rfailed_is _)))
            | (go_at_call 61; exact QB.call_of (Nat.le_refl _) (fun b => Dig.rstuck_is HK.out _))))
          refine wpQuiet_nil ?_
          intro _ hw'
          obtain ⟨p, rfl⟩ := hw'
          have HB2 := Lib.hid (HB1.out.by p)
          clear HB1 z0 z1 z2 z3 z4 z5 z6 k0_0 k0_1 k0_2 k0_3 k0_4 k0_5 k0_6
          generalize p.world = W2 at HB2 ⊢
          have kp : W2.cell? ⟨gd, 0, none⟩ = some (I ph) := HB2.out.cell 0 0 rfl rfl
          rw [if_pos rfl] at HST
          go_wp2_with fail
          refine (RefS.rwith_any _ _ _).mono ?_
          rintro e W3 ⟨rfl, b3⟩
          have HB3 := Lib.hid (HB2.out.step b3).drop
          clear kp b3 HB2
          go_wp2
          go_roundw
          case rel => exact ⟨q + 1, by omega, by go_num, by rw [HST.out], HB3.out⟩
          case measure => simp [intOf]; omega
      · obtain rfl : true = r := by simpa using hr
        have k0_0 : ∀ p : QB.By W1.heap.size W1, p.world.cell? ⟨gd, 0, none⟩ = some (I ph) := fun p => (HB1.out.by p).cell 0 0 rfl rfl
        have k0_1 : ∀ p : QB.By W1.heap.size W1, p.world.cell? ⟨gd, 1, none⟩ = some (F on) := fun p => (HB1.out.by p).cell 0 1 rfl rfl
        have k0_2 : ∀ p : QB.By W1.heap.size W1, p.world.cell? ⟨gd, 2, none⟩ = some (F off) := fun p => (HB1.out.by p).cell 0 2 rfl rfl
        have k0_3 : ∀ p : QB.By W1.heap.size W1, p.world.cell? ⟨gd, 3, none⟩ = some (F dl) := fun p => (HB1.out.by p).cell 0 3 rfl rfl
        have k0_4 : ∀ p : QB.By W1.heap.size W1, p.world.cell? ⟨gd, 4, none⟩ = some (F ex) := fun p => (HB1.out.by p).cell 0 4 rfl rfl
        have k0_5 : ∀ p : QB.By W1.heap.size W1, p.world.cell? ⟨gd, 5, none⟩ = some (I mo) := fun p => (HB1.out.by p).cell 0 5 rfl rfl
        have k0_6 : ∀ p : QB.By W1.heap.size W1, p.world.cell? ⟨gd, 6, none⟩ = some (I mf) := fun p => (HB1.out.by p).cell 0 6 rfl rfl
        have z0 : ∀ p : QB.By W1.heap.size W1, p.world.cell? (z.add (q * 7)) = some (Value.bool b) := fun p => by have := Lies.below HLZ.out (HB1.out.by p).bel 0 _ rfl; rwa [Tab.add_zero] at this
        have z1 : ∀ p : QB.By W1.heap.size W1, p.world.cell? ⟨(z.add (q * 7)).block, (z.add (q * 7)).off + 1, none⟩ = some (I n') := fun p => by have := Lies.below HLZ.out (HB1.out.by p).bel 1 _ rfl; simpa [Addr.add] using this
        have z2 : ∀ p : QB.By W1.heap.size W1, p.world.cell? ⟨(z.add (q * 7)).block, (z.add (q * 7)).off + 2, none⟩ = some (I wa) := fun p => by have := Lies.below HLZ.out (HB1.out.by p).bel 2 _ rfl; simpa [Addr.add] using this
        have z3 : ∀ p : QB.By W1.heap.size W1, p.world.cell? ⟨(z.add (q * 7)).block, (z.add (q * 7)).off + 3, none⟩ = some (I wb) := fun p => by have := Lies.below HLZ.out (HB1.out.by p).bel 3 _ rfl; simpa [Addr.add] using this
        have z4 : ∀ p : QB.By W1.heap.size W1, p.world.cell? ⟨(z.add (q * 7)).block, (z.add (q * 7)).off + 4, none⟩ = some (I h) := fun p => by have := Lies.below HLZ.out (HB1.out.by p).bel 4 _ rfl; simpa [Addr.add] using this
        have z5 : ∀ p : QB.By W1.heap.size W1, p.world.cell? ⟨(z.add (q * 7)).block, (z.add (q * 7)).off + 5, none⟩ = some (I t) := fun p => by have := Lies.below HLZ.out (HB1.out.by p).bel 5 _ rfl; simpa [Addr.add] using this
        have z6 : ∀ p : QB.By W1.heap.size W1, p.world.cell? ⟨(z.add (q * 7)).block, (z.add (q * 7)).off + 6, none⟩ = some (Value.bool true) := fun p => by have := Lies.below HLZ.out (HB1.out.by p).bel 6 _ rfl; simpa [Addr.add] using this
        refine QB.region_below W1.heap.size (by kernel_rfl) (by kernel_rfl) ?_
        dsimp only [Act.put]
        repeat (go_big_quiet_step (first
          | (go_at_call 60; exact QB.call_of (Nat.le_refl _) (fun b => (HF.out ▸ Lvl.rfailed_is _)))
          | (go_at_call 61; exact QB.call_of (Nat.le_refl _) (fun b => Dig.rstuck_is HK.out _))))
        refine wpQuiet_nil ?_
        intro _ hw'
        obtain ⟨p, rfl⟩ := hw'
        have HB2 := Lib.hid (HB1.out.by p)
        clear HB1 z0 z1 z2 z3 z4 z5 z6 k0_0 k0_1 k0_2 k0_3 k0_4 k0_5 k0_6
        generalize p.world = W2 at HB2 ⊢
        have kp : W2.cell? ⟨gd, 0, none⟩ = some (I ph) := HB2.out.cell 0 0 rfl rfl
        rw [if_pos rfl] at HST
        go_wp2_with fail
        refine (RefS.rwith_any _ _ _).mono ?_
        rintro e W3 ⟨rfl, b3⟩
        have HB3 := Lib.hid (HB2.out.step b3).drop
        clear kp b3 HB2
        go_wp2
        go_roundw
        case rel => exact ⟨q + 1, by omega, by go_num, by rw [HST.out], HB3.out⟩
        case measure => simp [intOf]; omega
    · obtain rfl : q = m := by omega
      have HBB := Lib.hid HB.out.bel
      rcases Nat.lt_or_ge q n with hx | hx
      · have hx2 : ¬ q < n1 := by omega
        go_wp2
        go_ret
        exact ⟨rfl, HBB.out⟩
      · have hx2 : ¬ q < n := by omega
        go_wp2
        go_ret
        exact ⟨rfl, HBB.out⟩
end Dtc
namespace Same
open Go.ChangeShapes Go.WideShapes
open Tab Flat
def single (T : Tab) : List Int := [T.extend, T.budget, T.start, T.revert, T.least, T.window, T.share]
end Same
namespace Dtc
open Go.ChangeShapes Go.WideShapes Go.ChangeAt Go.RowKit
open Tab Flat TabArg Copy Go.Proofs.Fl
open Lvl (Lv stp failed)
open Dig (Wd wat stk)
open Dly (Tm tmr)
end Dtc
namespace Gath
open Go Go.RowKit
open Tab
section
variable {α : Type} {enc : α → List Value} {size : Nat} {B : Nat} {w w' : World} {e : TypeId} {v : Value} {l : List α}
/-- A slice of its own memory (laid since B) that holds the elements l. -/
def Owns (enc : α → List Value) (size B : Nat) (w : World) (e : TypeId) (v : Value) (l : List α) : Prop := w.ownsRow B e size v l.length (l.flatMap enc)
theorem Owns.nil : Owns enc size B w e (.slice none 0 0) ([] : List α) := World.ownsRow_nil _ _ _ _
theorem Owns.snoc {x : α} {v' : Value} (h : w.ownsRow B e size v' (l.length + 1) (l.flatMap enc ++ enc x)) : Owns enc size B w e v' (l ++ [x]) := by
  unfold Owns
  rw [List.length_append, List.flatMap_append, List.flatMap_cons, List.flatMap_nil, List.append_nil]
  exact h
theorem Owns.below (h : Owns enc size B w e v l) (hb : Below w.heap.size w w') : Owns enc size B w' e v l :=
  World.ownsRow.kept (row := none) h ⟨hb.os, hb.tape, hb.output, hb.size, fun j hj _ => hb.block j hj⟩ (by cases hv : v.ownBlock <;> simp)
theorem Owns.mono {B' : Nat} (h : Owns enc size B w e v l) (hb : B' ≤ B) : Owns enc size B' w e v l := by
  refine ⟨h.1, ?_⟩
  rcases h.2 with hn | ⟨g, cap, cur, rfl, h1, h2⟩
  · exact .inl hn
  · exact .inr ⟨g, cap, cur, rfl, by omega, h2⟩
theorem Owns.blk (h : Owns enc size B w e v l) (j : Nat) (hj : v.ownBlock = some j) : B ≤ j := by
  rcases h.2 with ⟨rfl, _⟩ | ⟨g, cap, cur, rfl, hb, _, _⟩
  · simp [Value.ownBlock] at hj
  · obtain rfl : g = j := by simpa [Value.ownBlock] using hj
    exact hb
theorem flat_len (henc : ∀ x, (enc x).length = size) : ∀ l : List α, (l.flatMap enc).length = l.length * size
  | [] => by simp
  | x :: l => by rw [List.flatMap_cons, List.length_append, henc, flat_len henc l, List.length_cons, Nat.add_mul]; omega
theorem flat_at (henc : ∀ x, (enc x).length = size) : ∀ (l : List α) (i : Nat) (x : α), l[i]? = some x → ((l.flatMap enc).drop (i * size)).take size = enc x
  | [], i, x, h => by simp at h
  | y :: l, 0, x, h => by
    obtain rfl : y = x := by simpa using h
    rw [Nat.zero_mul, List.drop_zero, List.flatMap_cons, ← henc y, List.take_left]
  | y :: l, i + 1, x, h => by
    rw [List.flatMap_cons, Nat.add_mul, Nat.one_mul, Nat.add_comm, ← henc y, List.drop_append, List.drop_of_length_le (by omega), List.nil_append, Nat.add_sub_cancel_left, henc y]
    exact flat_at henc l i x (by simpa using h)
/-- What was gathered reads as a row. -/
theorem Owns.row (h : Owns enc size B w e v l) (henc : ∀ x, (enc x).length = size) : ∃ s : Sl, v = s.val l.length ∧ RowOf size enc w s l := by
  rcases h.2 with ⟨rfl, h0⟩ | ⟨g, cap, cur, rfl, h1, h2, h3, h4, h5, h6⟩
  · have : l = [] := List.eq_nil_of_length_eq_zero h0
    subst this
    exact ⟨⟨none, 0⟩, rfl, RowOf.nil w⟩
  · refine ⟨⟨some ⟨g, 0, none⟩, cap⟩, rfl, .inr ⟨_, rfl, h3, h4, fun i x hx j u hu => ?_⟩⟩
    have hi : i < l.length := (List.getElem?_eq_some_iff.1 hx).1
    have hj : j < size := by rw [← henc x]; exact (List.getElem?_eq_some_iff.1 hu).1
    rw [Addr.add_mid, Nat.zero_add, Addr.add_mid, cell_of_row _ _ _ _ _ _ h2]
    have hf := flat_at henc l i x hx
    rw [← h6] at hf
    rw [← hf] at hu
    have hlt : i * size + j < l.length * size := by
      have : (i + 1) * size ≤ l.length * size := Nat.mul_le_mul_right _ hi
      rw [Nat.add_mul, Nat.one_mul] at this
      omega
    rw [List.getElem?_take, if_pos hj, List.getElem?_drop, List.getElem?_take, if_pos hlt, Array.getElem?_toList] at hu
    exact hu
end
end Gath
namespace Dtc
open Go.ChangeShapes Go.WideShapes Go.ChangeAt Go.RowKit
open Tab Flat TabArg Copy Go.Proofs.Fl
open Lvl (Lv stp failed)
open Dig (Wd wat stk)
open Dly (Tm tmr)
/-- Blocks older than B, where only what is B or newer has changed. -/
theorem older {w u v : World} {L : List Blk.Bl} {B : Nat} (h : Blk.Bks w L u) (hb : Below B u v) (hB : w.heap.size ≤ B) (hL : ∀ x ∈ L, x.1 < B) : Blk.Bks w L v :=
  ⟨h.bel.trans (hb.mono hB), h.low, fun x hx => (hb.block _ (hL x hx)).trans (h.blk x hx), h.apart⟩
theorem row_blk {B : Nat} {w : World} {e : TypeId} {size : Nat} {v : Value} {n : Nat} {xs : List Value} (h : w.ownsRow B e size v n xs) (j : Nat) (hj : v.ownBlock = some j) : B ≤ j := by
  rcases h.2 with ⟨rfl, _⟩ | ⟨g, cap, cur, rfl, hb, _, _⟩
  · simp [Value.ownBlock] at hj
  · obtain rfl : g = j := by simpa [Value.ownBlock] using hj
    exact hb
theorem rdet_any {T : Tab} {hd : Hd} {w : World} (ht : IsTab w hd T) (few : T.dets.length ≤ 1000) {a : Option Addr} {cap : Nat} {l : List Ch} (hl : RowOf 7 Ch.cells w ⟨a, cap⟩ l) {xa : Option Addr} {cap2 : Nat} {xs : List Nat} (hx : FltRow w ⟨xa, cap2⟩ xs) :
    Calls Try.prog 26 #[.agg (T.cells hd).toArray, .slice a l.length cap, .slice xa xs.length cap2] w fun e w' => ∃ s : Sl, e = .returned (s.val T.dets.length) ∧ RowOf 7 Ch.cells w' s (dts T.dets l xs) ∧ Below w.heap.size w w' := by
  have CK := Lib.hid (cells_ok ht)
  have HR := Lib.hid ht.dets
  have HL := Lib.hid hl
  have HX := Lib.hid hx
  have hxl := hx.1.len
  have hll := hl.len
  obtain ⟨j0, hj, hy0, hy1, hy2⟩ := info_parts infoCz
  generalize hD : dts T.dets l xs = D
  have DL : Hid (D.length = T.dets.length) := Lib.hid (by rw [← hD]; exact dts_len _ _ _)
  have DA : Hid (∀ (i : Nat) (d : Det), T.dets[i]? = some d → D[i]? = some (chn d (l.getD i zCh) (xs.getD i NAN))) := Lib.hid (fun i d h => by rw [← hD]; exact dts_at h)
  clear ht hl hx hD
  have q113 := CK.out.d
  generalize (T.cells hd).toArray = tc at *
  obtain ⟨sg, ⟨da, dcap⟩, sr, sb⟩ := hd
  generalize T.dets = ds at *
  generalize hn : ds.length = n at *
  have HN := Lib.hid hn
  generalize hn1 : l.length = n1 at *
  have HN1 := Lib.hid hn1
  generalize hn2 : xs.length = n2 at *
  have HN2 := Lib.hid hn2
  unfold maxLen at hxl hll
  obtain ⟨hx1, hx2⟩ := hxl
  obtain ⟨hl1, hl2⟩ := hll
  clear hn hn1 hn2 CK
  have h0 := (Blk.Bks.nil w).alloc tc 31
  go_enter Try.func26, Try.ntmps26
  go_upto_region 1 with fail
  have hu : w.heap.size + 1 = (w.alloc (.cells tc 31)).heap.size := by simp
  generalize World.alloc w _ = u at h0 hu ⊢
  obtain ⟨B, hBe⟩ : ∃ B, B = u.heap.size := ⟨_, rfl⟩
  have hgt : w.heap.size < B := by omega
  have hwB : w.heap.size ≤ B := by omega
  generalize w.heap.size = gt at h0 hgt ⊢
  have H0 := Lib.hid h0
  clear h0 hu
  go_wp2_with fail
  go_loopw [7, 8] (fun v i wr => ∃ (q : Nat), q ≤ n ∧ i = .int .i64 q ∧ Gath.Owns Ch.cells 7 B wr 75 v (D.take q) ∧ Blk.Bks w [(gt, tc, 31)] wr ∧ B ≤ wr.heap.size) (fun _ i _ => n - (intOf i).toNat)
  case atStart => exact ⟨0, by omega, rfl, Gath.Owns.nil, H0.out, by omega⟩
  case round =>
    clear H0
    obtain ⟨q, hq, rfl, hown, hB, hBw⟩ := hrel
    have HB := Lib.hid hB
    have HO := Lib.hid hown
    clear hB hown
    have k113 : wr.cell? ⟨gt, 113, none⟩ = some (.slice da n dcap) := HB.out.cell 0 113 rfl q113
    by_cases hlt : q < n
    · obtain ⟨d, hd⟩ : ∃ d, ds[q]? = some d := ⟨_, List.getElem?_eq_getElem (by rw [HN.out]; exact hlt)⟩
      obtain ⟨y, hy, hly⟩ := HR.out.at hd
      obtain rfl : da = some y := hy
      have HCQ := Lib.hid (DA.out q d hd)
      clear DA hd
      obtain ⟨ph, on, off, dl, ex, mo, mf⟩ := d
      have HLY := Lib.hid hly
      clear hly
      obtain ⟨⟨⟨b, n'⟩, ⟨wa, wb⟩, h, t, o⟩, hc0⟩ : ∃ c, l.getD q zCh = c := ⟨_, rfl⟩
      obtain ⟨x, hxq⟩ : ∃ x, xs.getD q NAN = x := ⟨_, rfl⟩
      have hxw : x < 18446744073709551616 := by
        rw [← hxq, List.getD_eq_getElem?_getD]
        cases e : xs[q]? with
        | none => show NAN < _; decide
        | some z => exact HX.out.2 z (List.mem_of_getElem? e)
      rw [hc0, hxq] at HCQ
      obtain ⟨⟨⟨b', n2'⟩, ⟨wa', wb'⟩, h', t', o'⟩, hs⟩ : ∃ c, chn ⟨ph, on, off, dl, ex, mo, mf⟩ ⟨⟨b, n'⟩, ⟨wa, wb⟩, h, t, o⟩ x = c := ⟨_, rfl⟩
      rw [hs] at HCQ
      unfold chn at hs
      injection hs with e1 e2 e3
      dsimp only at e1 e2 e3
      rw [e1] at e2 e3
      have HV := Lib.hid e1
      have HW := Lib.hid e2
      have HT := Lib.hid e3
      have HXQ := Lib.hid hxq
      have HXW := Lib.hid hxw
      clear hxq hxw e1 e2 e3
      go_upto_region 6 with fail
      have hr := (Blk.Bks.nil wr).alloc #[Value.bool false, I 0, I 0, I 0, I 0, I 0, Value.bool false] 75
      generalize World.alloc wr _ = W2 at hr ⊢
      generalize wr.heap.size = gc at hr ⊢
      have HR2 := Lib.hid hr
      clear hr k113
      rcases Nat.lt_or_ge q n1 with hq1 | hq1
      · obtain ⟨z, hz, hzl⟩ := HL.out.at (i := q) (v := ⟨⟨b, n'⟩, ⟨wa, wb⟩, h, t, o⟩) (by rw [← hc0, List.getD_eq_getElem?_getD, List.getElem?_eq_getElem (by rw [HN1.out]; exact hq1)]; rfl)
        obtain rfl : a = some z := hz
        have HLZ := Lib.hid (Lies.below hzl (HB.out.bel.trans (HR2.out.bel.mono HB.out.bel.size)))
        clear hzl hc0
        go_upto_region 8 with (first | (refine Row.wpList_load_lies rfl 75 _ rfl (z.add (q * 7)) rfl (Ch.cells ⟨⟨b, n'⟩, ⟨wa, wb⟩, h, t, o⟩) _ HLZ.out Try.underlying75 rfl infoC ?_) | (refine wpList_store_row rfl 75 _ _ rfl gc #[Value.bool b, I n', I wa, I wb, I h, I t, Value.bool o] rfl rfl 75 _ (HR2.out.at 0 rfl) infoC rfl (by simp [Value.oneCell']) ?_))
        have hput := HR2.out.put 0 rfl #[Value.bool b, I n', I wa, I wb, I h, I t, Value.bool o]
        simp only [List.set_cons_zero] at hput
        generalize World.setRow W2 gc _ = W3 at hput ⊢
        have HR3 := Lib.hid hput
        clear hput HR2 HLZ
        rcases Nat.lt_or_ge q n2 with hq2 | hq2
        · obtain ⟨z, hz, hzl⟩ := HX.out.1.at (i := q) (v := x) (by rw [← HXQ.out, List.getD_eq_getElem?_getD, List.getElem?_eq_getElem (by rw [HN2.out]; exact hq2)]; rfl)
          obtain rfl : xa = some z := hz
          have hzc : W3.cell? (z.add q) = some (F x) := Arg.one_below hzl (HB.out.bel.trans (HR3.out.bel.mono HB.out.bel.size))
          clear hzl
          have k113 : W3.cell? ⟨gt, 113, none⟩ = some (.slice (some y) n dcap) := (HB.out.step HR3.out.bel).cell 0 113 rfl q113
          have HLY3 := Lib.hid (Lies.below HLY.out (HB.out.bel.trans (HR3.out.bel.mono HB.out.bel.size)))
          go_upto_region 11 with (go_at_call 31; refine (nan_any _).mono ?_; rintro e w' ⟨rfl, rfl⟩)
          go_upto_region 12 with (first | (refine Row.wpList_load_lies rfl 65 _ rfl (y.add (q * 7)) rfl (Det.cells ⟨ph, on, off, dl, ex, mo, mf⟩) _ HLY3.out Try.underlying65 rfl infoD ?_) | (refine Row.wpList_store_new rfl 65 _ _ rfl _ _ #[I ph, F on, F off, F dl, F ex, I mo, I mf] rfl rfl rfl infoD rfl (by simp [Value.oneCell']) ?_))
          have hr := HR3.out.alloc #[I ph, F on, F off, F dl, F ex, I mo, I mf] 65
          generalize World.alloc W3 _ = W5 at hr ⊢
          generalize W3.heap.size = gd at hr ⊢
          have HR5 := Lib.hid hr
          clear hr k113 HLY3 HR3
          have k0_0 : W5.cell? ⟨gd, 0, none⟩ = some (I ph) := HR5.out.cell 0 0 rfl rfl
          have k0_1 : W5.cell? ⟨gd, 1, none⟩ = some (F on) := HR5.out.cell 0 1 rfl rfl
          have k0_2 : W5.cell? ⟨gd, 2, none⟩ = some (F off) := HR5.out.cell 0 2 rfl rfl
          have k0_3 : W5.cell? ⟨gd, 3, none⟩ = some (F dl) := HR5.out.cell 0 3 rfl rfl
          have k0_4 : W5.cell? ⟨gd, 4, none⟩ = some (F ex) := HR5.out.cell 0 4 rfl rfl
          have k0_5 : W5.cell? ⟨gd, 5, none⟩ = some (I mo) := HR5.out.cell 0 5 rfl rfl
          have k0_6 : W5.cell? ⟨gd, 6, none⟩ = some (I mf) := HR5.out.cell 0 6 rfl rfl
          go_upto_region 14 with (go_at_call 53; refine (rticks_is rfl rfl _).mono ?_; rintro e w' ⟨rfl, rfl⟩)
          have k1_0 : W5.cell? ⟨gc, 0, none⟩ = some (Value.bool b) := HR5.out.cell 1 0 rfl rfl
          have k1_1 : W5.cell? ⟨gc, 1, none⟩ = some (I n') := HR5.out.cell 1 1 rfl rfl
          have k1_2 : W5.cell? ⟨gc, 2, none⟩ = some (I wa) := HR5.out.cell 1 2 rfl rfl
          have k1_3 : W5.cell? ⟨gc, 3, none⟩ = some (I wb) := HR5.out.cell 1 3 rfl rfl
          have k1_4 : W5.cell? ⟨gc, 4, none⟩ = some (I h) := HR5.out.cell 1 4 rfl rfl
          have k1_5 : W5.cell? ⟨gc, 5, none⟩ = some (I t) := HR5.out.cell 1 5 rfl rfl
          have k1_6 : W5.cell? ⟨gc, 6, none⟩ = some (Value.bool o) := HR5.out.cell 1 6 rfl rfl
          go_wp2_with fail
          refine (Lvl.rstep_is HXW.out HV.out _).mono ?_
          rintro e W6 ⟨rfl, b6⟩
          clear k0_0 k0_1 k0_2 k0_3 k0_4 k0_5 k0_6 k1_0 k1_1 k1_2 k1_3 k1_4 k1_5 k1_6
          go_upto_region 15 with fail
          have hr := (HR5.out.step b6).alloc #[Value.bool b', I n2'] 69
          generalize World.alloc W6 _ = W7 at hr ⊢
          generalize W6.heap.size = gl at hr ⊢
          have HR7 := Lib.hid hr
          clear hr b6 HR5
          have k0_0 : ∀ p : QB.By W7.heap.size W7, p.world.cell? ⟨gl, 0, none⟩ = some (Value.bool b') := fun p => (HR7.out.by p).cell 0 0 rfl rfl
          have k0_1 : ∀ p : QB.By W7.heap.size W7, p.world.cell? ⟨gl, 1, none⟩ = some (I n2') := fun p => (HR7.out.by p).cell 0 1 rfl rfl
          have k2_0 : ∀ p : QB.By W7.heap.size W7, p.world.cell? ⟨gc, 0, none⟩ = some (Value.bool b) := fun p => (HR7.out.by p).cell 2 0 rfl rfl
          have k2_1 : ∀ p : QB.By W7.heap.size W7, p.world.cell? ⟨gc, 1, none⟩ = some (I n') := fun p => (HR7.out.by p).cell 2 1 rfl rfl
          have k2_2 : ∀ p : QB.By W7.heap.size W7, p.world.cell? ⟨gc, 2, none⟩ = some (I wa) := fun p => (HR7.out.by p).cell 2 2 rfl rfl
          have k2_3 : ∀ p : QB.By W7.heap.size W7, p.world.cell? ⟨gc, 3, none⟩ = some (I wb) := fun p => (HR7.out.by p).cell 2 3 rfl rfl
          have k2_4 : ∀ p : QB.By W7.heap.size W7, p.world.cell? ⟨gc, 4, none⟩ = some (I h) := fun p => (HR7.out.by p).cell 2 4 rfl rfl
          have k2_5 : ∀ p : QB.By W7.heap.size W7, p.world.cell? ⟨gc, 5, none⟩ = some (I t) := fun p => (HR7.out.by p).cell 2 5 rfl rfl
          have k2_6 : ∀ p : QB.By W7.heap.size W7, p.world.cell? ⟨gc, 6, none⟩ = some (Value.bool o) := fun p => (HR7.out.by p).cell 2 6 rfl rfl
          refine QT.region1 W7.heap.size 15 (by kernel_rfl) (by kernel_rfl) (by kernel_rfl) (by kernel_rfl) (v := u7) (fun _ _ _ h => h) (Or.inl ⟨by rfl, fun w' => by go_simp; try rfl⟩) ?_
          dsimp only [Act.put]
          simp only [List.setIfInBounds_toArray, List.set_cons_zero, List.set_cons_succ, List.take_succ_cons, List.take_zero, List.drop_succ_cons, List.drop_zero]
          repeat (quiet_step (first
            | (go_at_call 56; exact QB.call_of (Nat.le_refl _) (fun b => Lvl.rseen_is _))
            | (go_at_call 55; exact QB.call_of (Nat.le_refl _) (fun b => Dig.rwatch_is HW.out _))
            | (go_at_call 57; exact QB.call_of (Nat.le_refl _) (fun b => Dly.rstep_is HT.out _))))
          refine wpQuiet_nil ?_
          intro _ hw'
          obtain ⟨p, rfl⟩ := hw'
          have HR8 := Lib.hid (HR7.out.by p)
          clear HR7 k0_0 k0_1 k2_0 k2_1 k2_2 k2_3 k2_4 k2_5 k2_6
          generalize p.world = W8 at HR8 ⊢
          have HO8 : Hid (Gath.Owns Ch.cells 7 B W8 75 u7 (D.take q)) := Lib.hid (HO.out.below HR8.out.bel)
          have hsz8 := HR8.out.bel.size
          have htq : (D.take q).length = q := by rw [List.length_take, DL.out]; omega
          go_wp2_with (at_builtin; refine wpList_append_own _ rfl _ _ 49 rfl B 75 j0 (.agg #[Value.bool false, I 0, I 0, I 0, I 0, I 0, Value.bool false]) 7 56 Try.underlying49 hj hy0 hy1 hy2 rfl (by decide) _ _ _ rfl (World.ownsRow.alloc HO8.out _) ⟨W8.heap.size, 0, none⟩ 1 1 [Value.bool b', I n2', I wa', I wb', I h', I t', Value.bool o'] rfl rfl ?c1 ?c2 ?c3 ?c4 ?c5 ?_)
          case c1 => exact Row.lies_new W8 _ _
          case c2 => simp [Value.oneCell']
          case c3 => unfold maxLen; omega
          case c4 => omega
          case c5 => simp; omega
          intro v' W9 hown' hgrow hnil'
          have hbel : Below B wr W9 := ((HR8.out.bel.mono hBw).alloc (by omega) _).grown hgrow (by simp; omega) (fun j hj => row_blk HO8.out j hj)
          have HO9 : Hid (Gath.Owns Ch.cells 7 B W9 75 v' (D.take (q + 1))) := Lib.hid (by
            rw [List.take_add_one, HCQ.out]
            exact Gath.Owns.snoc (x := (⟨⟨b', n2'⟩, ⟨wa', wb'⟩, h', t', o'⟩ : Ch)) (by first | exact hown' | (rw [htq, hBe]; exact hown') | (rw [htq]; exact hown')))
          have HB9 := Lib.hid (older HB.out hbel (by omega) (by intro x hx; simp at hx; subst hx; exact hgt))
          have hB9 := hbel.size
          clear hown' hgrow hnil' hbel HR8 HO8
          go_wp2
          go_roundw
          case rel => exact ⟨q + 1, by omega, by go_num, HO9.out, HB9.out, by omega⟩
          case measure => simp [intOf]; omega
        · obtain rfl : NAN = x := by rw [← HXQ.out, List.getD_eq_getElem?_getD, List.getElem?_eq_none (by rw [HN2.out]; exact hq2)]; rfl
          have k113 : W3.cell? ⟨gt, 113, none⟩ = some (.slice (some y) n dcap) := (HB.out.step HR3.out.bel).cell 0 113 rfl q113
          have HLY3 := Lib.hid (Lies.below HLY.out (HB.out.bel.trans (HR3.out.bel.mono HB.out.bel.size)))
          go_upto_region 11 with (go_at_call 31; refine (nan_any _).mono ?_; rintro e w' ⟨rfl, rfl⟩)
          go_upto_region 12 with (first | (refine Row.wpList_load_lies rfl 65 _ rfl (y.add (q * 7)) rfl (Det.cells ⟨ph, on, off, dl, ex, mo, mf⟩) _ HLY3.out Try.underlying65 rfl infoD ?_) | (refine Row.wpList_store_new rfl 65 _ _ rfl _ _ #[I ph, F on, F off, F dl, F ex, I mo, I mf] rfl rfl rfl infoD rfl (by simp [Value.oneCell']) ?_))
          have hr := HR3.out.alloc #[I ph, F on, F off, F dl, F ex, I mo, I mf] 65
          generalize World.alloc W3 _ = W5 at hr ⊢
          generalize W3.heap.size = gd at hr ⊢
          have HR5 := Lib.hid hr
          clear hr k113 HLY3 HR3
          have k0_0 : W5.cell? ⟨gd, 0, none⟩ = some (I ph) := HR5.out.cell 0 0 rfl rfl
          have k0_1 : W5.cell? ⟨gd, 1, none⟩ = some (F on) := HR5.out.cell 0 1 rfl rfl
          have k0_2 : W5.cell? ⟨gd, 2, none⟩ = some (F off) := HR5.out.cell 0 2 rfl rfl
          have k0_3 : W5.cell? ⟨gd, 3, none⟩ = some (F dl) := HR5.out.cell 0 3 rfl rfl
          have k0_4 : W5.cell? ⟨gd, 4, none⟩ = some (F ex) := HR5.out.cell 0 4 rfl rfl
          have k0_5 : W5.cell? ⟨gd, 5, none⟩ = some (I mo) := HR5.out.cell 0 5 rfl rfl
          have k0_6 : W5.cell? ⟨gd, 6, none⟩ = some (I mf) := HR5.out.cell 0 6 rfl rfl
          go_upto_region 14 with (go_at_call 53; refine (rticks_is rfl rfl _).mono ?_; rintro e w' ⟨rfl, rfl⟩)
          have k1_0 : W5.cell? ⟨gc, 0, none⟩ = some (Value.bool b) := HR5.out.cell 1 0 rfl rfl
          have k1_1 : W5.cell? ⟨gc, 1, none⟩ = some (I n') := HR5.out.cell 1 1 rfl rfl
          have k1_2 : W5.cell? ⟨gc, 2, none⟩ = some (I wa) := HR5.out.cell 1 2 rfl rfl
          have k1_3 : W5.cell? ⟨gc, 3, none⟩ = some (I wb) := HR5.out.cell 1 3 rfl rfl
          have k1_4 : W5.cell? ⟨gc, 4, none⟩ = some (I h) := HR5.out.cell 1 4 rfl rfl
          have k1_5 : W5.cell? ⟨gc, 5, none⟩ = some (I t) := HR5.out.cell 1 5 rfl rfl
          have k1_6 : W5.cell? ⟨gc, 6, none⟩ = some (Value.bool o) := HR5.out.cell 1 6 rfl rfl
          go_wp2_with fail
          refine (Lvl.rstep_is HXW.out HV.out _).mono ?_
          rintro e W6 ⟨rfl, b6⟩
          clear k0_0 k0_1 k0_2 k0_3 k0_4 k0_5 k0_6 k1_0 k1_1 k1_2 k1_3 k1_4 k1_5 k1_6
          go_upto_region 15 with fail
          have hr := (HR5.out.step b6).alloc #[Value.bool b', I n2'] 69
          generalize World.alloc W6 _ = W7 at hr ⊢
          generalize W6.heap.size = gl at hr ⊢
          have HR7 := Lib.hid hr
          clear hr b6 HR5
          have k0_0 : ∀ p : QB.By W7.heap.size W7, p.world.cell? ⟨gl, 0, none⟩ = some (Value.bool b') := fun p => (HR7.out.by p).cell 0 0 rfl rfl
          have k0_1 : ∀ p : QB.By W7.heap.size W7, p.world.cell? ⟨gl, 1, none⟩ = some (I n2') := fun p => (HR7.out.by p).cell 0 1 rfl rfl
          have k2_0 : ∀ p : QB.By W7.heap.size W7, p.world.cell? ⟨gc, 0, none⟩ = some (Value.bool b) := fun p => (HR7.out.by p).cell 2 0 rfl rfl
          have k2_1 : ∀ p : QB.By W7.heap.size W7, p.world.cell? ⟨gc, 1, none⟩ = some (I n') := fun p => (HR7.out.by p).cell 2 1 rfl rfl
          have k2_2 : ∀ p : QB.By W7.heap.size W7, p.world.cell? ⟨gc, 2, none⟩ = some (I wa) := fun p => (HR7.out.by p).cell 2 2 rfl rfl
          have k2_3 : ∀ p : QB.By W7.heap.size W7, p.world.cell? ⟨gc, 3, none⟩ = some (I wb) := fun p => (HR7.out.by p).cell 2 3 rfl rfl
          have k2_4 : ∀ p : QB.By W7.heap.size W7, p.world.cell? ⟨gc, 4, none⟩ = some (I h) := fun p => (HR7.out.by p).cell 2 4 rfl rfl
          have k2_5 : ∀ p : QB.By W7.heap.size W7, p.world.cell? ⟨gc, 5, none⟩ = some (I t) := fun p => (HR7.out.by p).cell 2 5 rfl rfl
          have k2_6 : ∀ p : QB.By W7.heap.size W7, p.world.cell? ⟨gc, 6, none⟩ = some (Value.bool o) := fun p => (HR7.out.by p).cell 2 6 rfl rfl
          refine QT.region1 W7.heap.size 15 (by kernel_rfl) (by kernel_rfl) (by kernel_rfl) (by kernel_rfl) (v := u7) (fun _ _ _ h => h) (Or.inl ⟨by rfl, fun w' => by go_simp; try rfl⟩) ?_
          dsimp only [Act.put]
          simp only [List.setIfInBounds_toArray, List.set_cons_zero, List.set_cons_succ, List.take_succ_cons, List.take_zero, List.drop_succ_cons, List.drop_zero]
          repeat (quiet_step (first
            | (go_at_call 56; exact QB.call_of (Nat.le_refl _) (fun b => Lvl.rseen_is _))
            | (go_at_call 55; exact QB.call_of (Nat.le_refl _) (fun b => Dig.rwatch_is HW.out _))
            | (go_at_call 57; exact QB.call_of (Nat.le_refl _) (fun b => Dly.rstep_is HT.out _))))
          refine wpQuiet_nil ?_
          intro _ hw'
          obtain ⟨p, rfl⟩ := hw'
          have HR8 := Lib.hid (HR7.out.by p)
          clear HR7 k0_0 k0_1 k2_0 k2_1 k2_2 k2_3 k2_4 k2_5 k2_6
          generalize p.world = W8 at HR8 ⊢
          have HO8 : Hid (Gath.Owns Ch.cells 7 B W8 75 u7 (D.take q)) := Lib.hid (HO.out.below HR8.out.bel)
          have hsz8 := HR8.out.bel.size
          have htq : (D.take q).length = q := by rw [List.length_take, DL.out]; omega
          go_wp2_with (at_builtin; refine wpList_append_own _ rfl _ _ 49 rfl B 75 j0 (.agg #[Value.bool false, I 0, I 0, I 0, I 0, I 0, Value.bool false]) 7 56 Try.underlying49 hj hy0 hy1 hy2 rfl (by decide) _ _ _ rfl (World.ownsRow.alloc HO8.out _) ⟨W8.heap.size, 0, none⟩ 1 1 [Value.bool b', I n2', I wa', I wb', I h', I t', Value.bool o'] rfl rfl ?c1 ?c2 ?c3 ?c4 ?c5 ?_)
          case c1 => exact Row.lies_new W8 _ _
          case c2 => simp [Value.oneCell']
          case c3 => unfold maxLen; omega
          case c4 => omega
          case c5 => simp; omega
          intro v' W9 hown' hgrow hnil'
          have hbel : Below B wr W9 := ((HR8.out.bel.mono hBw).alloc (by omega) _).grown hgrow (by simp; omega) (fun j hj => row_blk HO8.out j hj)
          have HO9 : Hid (Gath.Owns Ch.cells 7 B W9 75 v' (D.take (q + 1))) := Lib.hid (by
            rw [List.take_add_one, HCQ.out]
            exact Gath.Owns.snoc (x := (⟨⟨b', n2'⟩, ⟨wa', wb'⟩, h', t', o'⟩ : Ch)) (by first | exact hown' | (rw [htq, hBe]; exact hown') | (rw [htq]; exact hown')))
          have HB9 := Lib.hid (older HB.out hbel (by omega) (by intro x hx; simp at hx; subst hx; exact hgt))
          have hB9 := hbel.size
          clear hown' hgrow hnil' hbel HR8 HO8
          go_wp2
          go_roundw
          case rel => exact ⟨q + 1, by omega, by go_num, HO9.out, HB9.out, by omega⟩
          case measure => simp [intOf]; omega
      · have hc0 : zCh = (⟨⟨b, n'⟩, ⟨wa, wb⟩, h, t, o⟩ : Ch) := by rw [← hc0, List.getD_eq_getElem?_getD, List.getElem?_eq_none (by rw [HN1.out]; exact hq1)]; rfl
        unfold zCh at hc0
        injection hc0 with e1 e2 e3
        injection e1 with e11 e12
        injection e2 with e21 e22
        injection e3 with e31 e32 e33
        subst e11 e12 e21 e22 e31 e32 e33
        go_upto_region 8 with fail
        have HR3 := HR2
        clear HR2
        generalize W2 = W3 at HR3 ⊢
        rcases Nat.lt_or_ge q n2 with hq2 | hq2
        · obtain ⟨z, hz, hzl⟩ := HX.out.1.at (i := q) (v := x) (by rw [← HXQ.out, List.getD_eq_getElem?_getD, List.getElem?_eq_getElem (by rw [HN2.out]; exact hq2)]; rfl)
          obtain rfl : xa = some z := hz
          have hzc : W3.cell? (z.add q) = some (F x) := Arg.one_below hzl (HB.out.bel.trans (HR3.out.bel.mono HB.out.bel.size))
          clear hzl
          have k113 : W3.cell? ⟨gt, 113, none⟩ = some (.slice (some y) n dcap) := (HB.out.step HR3.out.bel).cell 0 113 rfl q113
          have HLY3 := Lib.hid (Lies.below HLY.out (HB.out.bel.trans (HR3.out.bel.mono HB.out.bel.size)))
          go_upto_region 11 with (go_at_call 31; refine (nan_any _).mono ?_; rintro e w' ⟨rfl, rfl⟩)
          go_upto_region 12 with (first | (refine Row.wpList_load_lies rfl 65 _ rfl (y.add (q * 7)) rfl (Det.cells ⟨ph, on, off, dl, ex, mo, mf⟩) _ HLY3.out Try.underlying65 rfl infoD ?_) | (refine Row.wpList_store_new rfl 65 _ _ rfl _ _ #[I ph, F on, F off, F dl, F ex, I mo, I mf] rfl rfl rfl infoD rfl (by simp [Value.oneCell']) ?_))
          have hr := HR3.out.alloc #[I ph, F on, F off, F dl, F ex, I mo, I mf] 65
          generalize World.alloc W3 _ = W5 at hr ⊢
          generalize W3.heap.size = gd at hr ⊢
          have HR5 := Lib.hid hr
          clear hr k113 HLY3 HR3
          have k0_0 : W5.cell? ⟨gd, 0, none⟩ = some (I ph) := HR5.out.cell 0 0 rfl rfl
          have k0_1 : W5.cell? ⟨gd, 1, none⟩ = some (F on) := HR5.out.cell 0 1 rfl rfl
          have k0_2 : W5.cell? ⟨gd, 2, none⟩ = some (F off) := HR5.out.cell 0 2 rfl rfl
          have k0_3 : W5.cell? ⟨gd, 3, none⟩ = some (F dl) := HR5.out.cell 0 3 rfl rfl
          have k0_4 : W5.cell? ⟨gd, 4, none⟩ = some (F ex) := HR5.out.cell 0 4 rfl rfl
          have k0_5 : W5.cell? ⟨gd, 5, none⟩ = some (I mo) := HR5.out.cell 0 5 rfl rfl
          have k0_6 : W5.cell? ⟨gd, 6, none⟩ = some (I mf) := HR5.out.cell 0 6 rfl rfl
          go_upto_region 14 with (go_at_call 53; refine (rticks_is rfl rfl _).mono ?_; rintro e w' ⟨rfl, rfl⟩)
          have k1_0 : W5.cell? ⟨gc, 0, none⟩ = some (Value.bool false) := HR5.out.cell 1 0 rfl rfl
          have k1_1 : W5.cell? ⟨gc, 1, none⟩ = some (I 0) := HR5.out.cell 1 1 rfl rfl
          have k1_2 : W5.cell? ⟨gc, 2, none⟩ = some (I 0) := HR5.out.cell 1 2 rfl rfl
          have k1_3 : W5.cell? ⟨gc, 3, none⟩ = some (I 0) := HR5.out.cell 1 3 rfl rfl
          have k1_4 : W5.cell? ⟨gc, 4, none⟩ = some (I 0) := HR5.out.cell 1 4 rfl rfl
          have k1_5 : W5.cell? ⟨gc, 5, none⟩ = some (I 0) := HR5.out.cell 1 5 rfl rfl
          have k1_6 : W5.cell? ⟨gc, 6, none⟩ = some (Value.bool false) := HR5.out.cell 1 6 rfl rfl
          go_wp2_with fail
          refine (Lvl.rstep_is HXW.out HV.out _).mono ?_
          rintro e W6 ⟨rfl, b6⟩
          clear k0_0 k0_1 k0_2 k0_3 k0_4 k0_5 k0_6 k1_0 k1_1 k1_2 k1_3 k1_4 k1_5 k1_6
          go_upto_region 15 with fail
          have hr := (HR5.out.step b6).alloc #[Value.bool b', I n2'] 69
          generalize World.alloc W6 _ = W7 at hr ⊢
          generalize W6.heap.size = gl at hr ⊢
          have HR7 := Lib.hid hr
          clear hr b6 HR5
          have k0_0 : ∀ p : QB.By W7.heap.size W7, p.world.cell? ⟨gl, 0, none⟩ = some (Value.bool b') := fun p => (HR7.out.by p).cell 0 0 rfl rfl
          have k0_1 : ∀ p : QB.By W7.heap.size W7, p.world.cell? ⟨gl, 1, none⟩ = some (I n2') := fun p => (HR7.out.by p).cell 0 1 rfl rfl
          have k2_0 : ∀ p : QB.By W7.heap.size W7, p.world.cell? ⟨gc, 0, none⟩ = some (Value.bool false) := fun p => (HR7.out.by p).cell 2 0 rfl rfl
          have k2_1 : ∀ p : QB.By W7.heap.size W7, p.world.cell? ⟨gc, 1, none⟩ = some (I 0) := fun p => (HR7.out.by p).cell 2 1 rfl rfl
          have k2_2 : ∀ p : QB.By W7.heap.size W7, p.world.cell? ⟨gc, 2, none⟩ = some (I 0) := fun p => (HR7.out.by p).cell 2 2 rfl rfl
          have k2_3 : ∀ p : QB.By W7.heap.size W7, p.world.cell? ⟨gc, 3, none⟩ = some (I 0) := fun p => (HR7.out.by p).cell 2 3 rfl rfl
          have k2_4 : ∀ p : QB.By W7.heap.size W7, p.world.cell? ⟨gc, 4, none⟩ = some (I 0) := fun p => (HR7.out.by p).cell 2 4 rfl rfl
          have k2_5 : ∀ p : QB.By W7.heap.size W7, p.world.cell? ⟨gc, 5, none⟩ = some (I 0) := fun p => (HR7.out.by p).cell 2 5 rfl rfl
          have k2_6 : ∀ p : QB.By W7.heap.size W7, p.world.cell? ⟨gc, 6, none⟩ = some (Value.bool false) := fun p => (HR7.out.by p).cell 2 6 rfl rfl
          refine QT.region1 W7.heap.size 15 (by kernel_rfl) (by kernel_rfl) (by kernel_rfl) (by kernel_rfl) (v := u7) (fun _ _ _ h => h) (Or.inl ⟨by rfl, fun w' => by go_simp; try rfl⟩) ?_
          dsimp only [Act.put]
          simp only [List.setIfInBounds_toArray, List.set_cons_zero, List.set_cons_succ, List.take_succ_cons, List.take_zero, List.drop_succ_cons, List.drop_zero]
          repeat (quiet_step (first
            | (go_at_call 56; exact QB.call_of (Nat.le_refl _) (fun b => Lvl.rseen_is _))
            | (go_at_call 55; exact QB.call_of (Nat.le_refl _) (fun b => Dig.rwatch_is HW.out _))
            | (go_at_call 57; exact QB.call_of (Nat.le_refl _) (fun b => Dly.rstep_is HT.out _))))
          refine wpQuiet_nil ?_
          intro _ hw'
          obtain ⟨p, rfl⟩ := hw'
          have HR8 := Lib.hid (HR7.out.by p)
          clear HR7 k0_0 k0_1 k2_0 k2_1 k2_2 k2_3 k2_4 k2_5 k2_6
          generalize p.world = W8 at HR8 ⊢
          have HO8 : Hid (Gath.Owns Ch.cells 7 B W8 75 u7 (D.take q)) := Lib.hid (HO.out.below HR8.out.bel)
          have hsz8 := HR8.out.bel.size
          have htq : (D.take q).length = q := by rw [List.length_take, DL.out]; omega
          go_wp2_with (at_builtin; refine wpList_append_own _ rfl _ _ 49 rfl B 75 j0 (.agg #[Value.bool false, I 0, I 0, I 0, I 0, I 0, Value.bool false]) 7 56 Try.underlying49 hj hy0 hy1 hy2 rfl (by decide) _ _ _ rfl (World.ownsRow.alloc HO8.out _) ⟨W8.heap.size, 0, none⟩ 1 1 [Value.bool b', I n2', I wa', I wb', I h', I t', Value.bool o'] rfl rfl ?c1 ?c2 ?c3 ?c4 ?c5 ?_)
          case c1 => exact Row.lies_new W8 _ _
          case c2 => simp [Value.oneCell']
          case c3 => unfold maxLen; omega
          case c4 => omega
          case c5 => simp; omega
          intro v' W9 hown' hgrow hnil'
          have hbel : Below B wr W9 := ((HR8.out.bel.mono hBw).alloc (by omega) _).grown hgrow (by simp; omega) (fun j hj => row_blk HO8.out j hj)
          have HO9 : Hid (Gath.Owns Ch.cells 7 B W9 75 v' (D.take (q + 1))) := Lib.hid (by
            rw [List.take_add_one, HCQ.out]
            exact Gath.Owns.snoc (x := (⟨⟨b', n2'⟩, ⟨wa', wb'⟩, h', t', o'⟩ : Ch)) (by first | exact hown' | (rw [htq, hBe]; exact hown') | (rw [htq]; exact hown')))
          have HB9 := Lib.hid (older HB.out hbel (by omega) (by intro x hx; simp at hx; subst hx; exact hgt))
          have hB9 := hbel.size
          clear hown' hgrow hnil' hbel HR8 HO8
          go_wp2
          go_roundw
          case rel => exact ⟨q + 1, by omega, by go_num, HO9.out, HB9.out, by omega⟩
          case measure => simp [intOf]; omega
        · obtain rfl : NAN = x := by rw [← HXQ.out, List.getD_eq_getElem?_getD, List.getElem?_eq_none (by rw [HN2.out]; exact hq2)]; rfl
          have k113 : W3.cell? ⟨gt, 113, none⟩ = some (.slice (some y) n dcap) := (HB.out.step HR3.out.bel).cell 0 113 rfl q113
          have HLY3 := Lib.hid (Lies.below HLY.out (HB.out.bel.trans (HR3.out.bel.mono HB.out.bel.size)))
          go_upto_region 11 with (go_at_call 31; refine (nan_any _).mono ?_; rintro e w' ⟨rfl, rfl⟩)
          go_upto_region 12 with (first | (refine Row.wpList_load_lies rfl 65 _ rfl (y.add (q * 7)) rfl (Det.cells ⟨ph, on, off, dl, ex, mo, mf⟩) _ HLY3.out Try.underlying65 rfl infoD ?_) | (refine Row.wpList_store_new rfl 65 _ _ rfl _ _ #[I ph, F on, F off, F dl, F ex, I mo, I mf] rfl rfl rfl infoD rfl (by simp [Value.oneCell']) ?_))
          have hr := HR3.out.alloc #[I ph, F on, F off, F dl, F ex, I mo, I mf] 65
          generalize World.alloc W3 _ = W5 at hr ⊢
          generalize W3.heap.size = gd at hr ⊢
          have HR5 := Lib.hid hr
          clear hr k113 HLY3 HR3
          have k0_0 : W5.cell? ⟨gd, 0, none⟩ = some (I ph) := HR5.out.cell 0 0 rfl rfl
          have k0_1 : W5.cell? ⟨gd, 1, none⟩ = some (F on) := HR5.out.cell 0 1 rfl rfl
          have k0_2 : W5.cell? ⟨gd, 2, none⟩ = some (F off) := HR5.out.cell 0 2 rfl rfl
          have k0_3 : W5.cell? ⟨gd, 3, none⟩ = some (F dl) := HR5.out.cell 0 3 rfl rfl
          have k0_4 : W5.cell? ⟨gd, 4, none⟩ = some (F ex) := HR5.out.cell 0 4 rfl rfl
          have k0_5 : W5.cell? ⟨gd, 5, none⟩ = some (I mo) := HR5.out.cell 0 5 rfl rfl
          have k0_6 : W5.cell? ⟨gd, 6, none⟩ = some (I mf) := HR5.out.cell 0 6 rfl rfl
          go_upto_region 14 with (go_at_call 53; refine (rticks_is rfl rfl _).mono ?_; rintro e w' ⟨rfl, rfl⟩)
          have k1_0 : W5.cell? ⟨gc, 0, none⟩ = some (Value.bool false) := HR5.out.cell 1 0 rfl rfl
          have k1_1 : W5.cell? ⟨gc, 1, none⟩ = some (I 0) := HR5.out.cell 1 1 rfl rfl
          have k1_2 : W5.cell? ⟨gc, 2, none⟩ = some (I 0) := HR5.out.cell 1 2 rfl rfl
          have k1_3 : W5.cell? ⟨gc, 3, none⟩ = some (I 0) := HR5.out.cell 1 3 rfl rfl
          have k1_4 : W5.cell? ⟨gc, 4, none⟩ = some (I 0) := HR5.out.cell 1 4 rfl rfl
          have k1_5 : W5.cell? ⟨gc, 5, none⟩ = some (I 0) := HR5.out.cell 1 5 rfl rfl
          have k1_6 : W5.cell? ⟨gc, 6, none⟩ = some (Value.bool false) := HR5.out.cell 1 6 rfl rfl
          go_wp2_with fail
          refine (Lvl.rstep_is HXW.out HV.out _).mono ?_
          rintro e W6 ⟨rfl, b6⟩
          clear k0_0 k0_1 k0_2 k0_3 k0_4 k0_5 k0_6 k1_0 k1_1 k1_2 k1_3 k1_4 k1_5 k1_6
          go_upto_region 15 with fail
          have hr := (HR5.out.step b6).alloc #[Value.bool b', I n2'] 69
          generalize World.alloc W6 _ = W7 at hr ⊢
          generalize W6.heap.size = gl at hr ⊢
          have HR7 := Lib.hid hr
          clear hr b6 HR5
          have k0_0 : ∀ p : QB.By W7.heap.size W7, p.world.cell? ⟨gl, 0, none⟩ = some (Value.bool b') := fun p => (HR7.out.by p).cell 0 0 rfl rfl
          have k0_1 : ∀ p : QB.By W7.heap.size W7, p.world.cell? ⟨gl, 1, none⟩ = some (I n2') := fun p => (HR7.out.by p).cell 0 1 rfl rfl
          have k2_0 : ∀ p : QB.By W7.heap.size W7, p.world.cell? ⟨gc, 0, none⟩ = some (Value.bool false) := fun p => (HR7.out.by p).cell 2 0 rfl rfl
          have k2_1 : ∀ p : QB.By W7.heap.size W7, p.world.cell? ⟨gc, 1, none⟩ = some (I 0) := fun p => (HR7.out.by p).cell 2 1 rfl rfl
          have k2_2 : ∀ p : QB.By W7.heap.size W7, p.world.cell? ⟨gc, 2, none⟩ = some (I 0) := fun p => (HR7.out.by p).cell 2 2 rfl rfl
          have k2_3 : ∀ p : QB.By W7.heap.size W7, p.world.cell? ⟨gc, 3, none⟩ = some (I 0) := fun p => (HR7.out.by p).cell 2 3 rfl rfl
          have k2_4 : ∀ p : QB.By W7.heap.size W7, p.world.cell? ⟨gc, 4, none⟩ = some (I 0) := fun p => (HR7.out.by p).cell 2 4 rfl rfl
          have k2_5 : ∀ p : QB.By W7.heap.size W7, p.world.cell? ⟨gc, 5, none⟩ = some (I 0) := fun p => (HR7.out.by p).cell 2 5 rfl rfl
          have k2_6 : ∀ p : QB.By W7.heap.size W7, p.world.cell? ⟨gc, 6, none⟩ = some (Value.bool false) := fun p => (HR7.out.by p).cell 2 6 rfl rfl
          refine QT.region1 W7.heap.size 15 (by kernel_rfl) (by kernel_rfl) (by kernel_rfl) (by kernel_rfl) (v := u7) (fun _ _ _ h => h) (Or.inl ⟨by rfl, fun w' => by go_simp; try rfl⟩) ?_
          dsimp only [Act.put]
          simp only [List.setIfInBounds_toArray, List.set_cons_zero, List.set_cons_succ, List.take_succ_cons, List.take_zero, List.drop_succ_cons, List.drop_zero]
          repeat (quiet_step (first
            | (go_at_call 56; exact QB.call_of (Nat.le_refl _) (fun b => Lvl.rseen_is _))
            | (go_at_call 55; exact QB.call_of (Nat.le_refl _) (fun b => Dig.rwatch_is HW.out _))
            | (go_at_call 57; exact QB.call_of (Nat.le_refl _) (fun b => Dly.rstep_is HT.out _))))
          refine wpQuiet_nil ?_
          intro _ hw'
          obtain ⟨p, rfl⟩ := hw'
          have HR8 := Lib.hid (HR7.out.by p)
          clear HR7 k0_0 k0_1 k2_0 k2_1 k2_2 k2_3 k2_4 k2_5 k2_6
          generalize p.world = W8 at HR8 ⊢
          have HO8 : Hid (Gath.Owns Ch.cells 7 B W8 75 u7 (D.take q)) := Lib.hid (HO.out.below HR8.out.bel)
          have hsz8 := HR8.out.bel.size
          have htq : (D.take q).length = q := by rw [List.length_take, DL.out]; omega
          go_wp2_with (at_builtin; refine wpList_append_own _ rfl _ _ 49 rfl B 75 j0 (.agg #[Value.bool false, I 0, I 0, I 0, I 0, I 0, Value.bool false]) 7 56 Try.underlying49 hj hy0 hy1 hy2 rfl (by decide) _ _ _ rfl (World.ownsRow.alloc HO8.out _) ⟨W8.heap.size, 0, none⟩ 1 1 [Value.bool b', I n2', I wa', I wb', I h', I t', Value.bool o'] rfl rfl ?c1 ?c2 ?c3 ?c4 ?c5 ?_)
          case c1 => exact Row.lies_new W8 _ _
          case c2 => simp [Value.oneCell']
          case c3 => unfold maxLen; omega
          case c4 => omega
          case c5 => simp; omega
          intro v' W9 hown' hgrow hnil'
          have hbel : Below B wr W9 := ((HR8.out.bel.mono hBw).alloc (by omega) _).grown hgrow (by simp; omega) (fun j hj => row_blk HO8.out j hj)
          have HO9 : Hid (Gath.Owns Ch.cells 7 B W9 75 v' (D.take (q + 1))) := Lib.hid (by
            rw [List.take_add_one, HCQ.out]
            exact Gath.Owns.snoc (x := (⟨⟨b', n2'⟩, ⟨wa', wb'⟩, h', t', o'⟩ : Ch)) (by first | exact hown' | (rw [htq, hBe]; exact hown') | (rw [htq]; exact hown')))
          have HB9 := Lib.hid (older HB.out hbel (by omega) (by intro x hx; simp at hx; subst hx; exact hgt))
          have hB9 := hbel.size
          clear hown' hgrow hnil' hbel HR8 HO8
          go_wp2
          go_roundw
          case rel => exact ⟨q + 1, by omega, by go_num, HO9.out, HB9.out, by omega⟩
          case measure => simp [intOf]; omega
    · obtain rfl : q = n := by omega
      rw [← DL.out, List.take_length] at HO
      obtain ⟨sl, rfl, hrow⟩ := HO.out.row Ch.len
      have HROW := Lib.hid hrow
      have HBB := Lib.hid HB.out.bel
      rw [DL.out]
      clear hrow
      go_wp2
      go_ret
      exact ⟨_, rfl, HROW.out, HBB.out⟩
end Dtc
namespace May
open Go.ChangeShapes Go.WideShapes Go.ChangeAt Go.RowKit
open Tab
theorem ret_bool {a b : Bool} (h : a = b) : Ending.returned (.bool a) = .returned (.bool b) := by rw [h]
/-- Are all numbers from 0 to m? -/
def inB (m : Int) (n : Int) : Bool := decide (0 ≤ n) && decide (n ≤ m)
def allIn (m : Int) (l : List Int) : Bool := l.all (inB m)
theorem take_succ' {α : Type} (l : List α) (k : Nat) (v : α) (h : l[k]? = some v) : l.take (k + 1) = l.take k ++ [v] := by
  rw [List.take_add_one, h]; rfl
theorem all_step {α : Type} {f : α → Bool} {l : List α} {k : Nat} {v : α} (h : l[k]? = some v) (hk : (l.take k).all f = true) (hv : f v = true) : (l.take (k + 1)).all f = true := by
  rw [take_succ' l k v h, List.all_append, hk]; simp [hv]
end May
namespace MayF
open Go.ChangeShapes Go.WideShapes Go.ChangeAt Go.RowKit Go.Proofs.Fl
open Secs
end MayF
namespace May
open Go.ChangeShapes Go.WideShapes Go.ChangeAt Go.RowKit
open Tab MayF
def rowMay (l : List Int) : Bool := decide (l.length ≤ 8) && allIn 7 l
def groupMay (g : List Int × List Int) : Bool := rowMay g.1 && rowMay g.2
theorem row_new (w : World) (t : TypeId) (l : List Int) (n : Nat) (hn : l.length = n) (hm : n ≤ maxLen) (k : Nat) (hk : w.heap.size = k) : IntRow (w.alloc (.cells (l.map I).toArray t)) ⟨some ⟨k, 0, none⟩, n⟩ l := by
  subst hn hk
  refine .inr ⟨_, rfl, Nat.le_refl _, hm, fun i v hv j u hu => ?_⟩
  cases j with
  | zero =>
    obtain rfl := Option.some.inj hu
    rw [Nat.mul_one, add_two, Nat.add_zero, Addr.add_mid, Nat.zero_add]
    rw [cell_of_row _ _ _ _ _ _ (heap_alloc_new w _)]
    simp [hv]
  | succ j => cases hu
end May
namespace May
open Go.ChangeShapes Go.WideShapes Go.ChangeAt Go.RowKit
open Tab
theorem chain {a b c : World} (h : Below a.heap.size a b) (k : Below b.heap.size b c) : Below a.heap.size a c := h.trans (k.mono h.size)
theorem infoP : (Try.prog.info? 23).map (·.size) = some 13 := by kernel_rfl
theorem infoG : (Try.prog.info? 108).map (·.size) = some 2 := by kernel_rfl
theorem infoD : (Try.prog.info? 65).map (·.size) = some 7 := by kernel_rfl
theorem infoR : (Try.prog.info? 88).map (·.size) = some 11 := by kernel_rfl
theorem infoB : (Try.prog.info? 91).map (·.size) = some 2 := by kernel_rfl
end May
namespace May
open Go.ChangeShapes Go.WideShapes Go.ChangeAt Go.RowKit
open Tab
/-- Phases that lie at a block's head, as a row. -/
theorem phases_in {w : World} {g : Nat} {cs : Array Value} {t : TypeId} {fr : Nat × Nat} {T : Tab} {h : Hd} (hg : w.heap[g]? = some (.cells cs t fr)) (C : CellsOk T h cs) (hn : T.phases.length = 8) :
    RowOf 13 Ph.cells w ⟨some ⟨g, 0, none⟩, 8⟩ T.phases := by
  refine .inr ⟨_, rfl, by rw [hn]; exact Nat.le_refl _, (show 8 ≤ maxLen by decide), fun i v hv j u hu => ?_⟩
  rw [add_two, Addr.add_mid, Nat.zero_add, Nat.mul_comm]
  exact range_of hg (13 * i) 13 _ (C.phase i v hv) j u hu
/-- What a walk over a boxed table holds on to. -/
structure St (w : World) (N : Nat) (cs : Array Value) (h : Hd) (T : Tab) (W : World) : Prop where
  bel : Below w.heap.size w W
  blk : W.heap[N]? = some (.cells cs 31 (0, 0))
  tab : IsTab W h T
  le : w.heap.size ≤ N
theorem St.step {w W W' : World} {N : Nat} {cs : Array Value} {h : Hd} {T : Tab} (k : St w N cs h T W) (hb : Below W.heap.size W W') : St w N cs h T W' :=
  ⟨chain k.bel hb, by rw [hb.block N (Array.getElem?_eq_some_iff.1 k.blk).1]; exact k.blk, k.tab.below hb, k.le⟩
theorem St.cell {w W : World} {N : Nat} {cs : Array Value} {h : Hd} {T : Tab} (k : St w N cs h T W) {o : Nat} {v : Value} (hv : cs[o]? = some v) : W.cell? ⟨N, o, none⟩ = some v := by
  rw [cell_of_row _ _ _ _ _ _ k.blk]; exact hv
theorem St.box {w : World} {cs : Array Value} {h : Hd} {T : Tab} (k : IsTab w h T) : St w w.heap.size cs h T (w.alloc (.cells cs 31)) :=
  ⟨(Below.refl _ _).alloc (Nat.le_refl _) _, heap_alloc_new _ _, k.below ((Below.refl _ _).alloc (Nat.le_refl _) _), Nat.le_refl _⟩
end May
namespace May
open Go.ChangeShapes Go.WideShapes Go.ChangeAt Go.RowKit
open Tab
def GAll (l : List Gr) : Prop := l.all (fun v => groupMay v.data) = true
theorem GAll.step {l : List Gr} {k : Nat} {v : Gr} (h : l[k]? = some v) (hk : GAll (l.take k)) (hv : groupMay v.data = true) : GAll (l.take (k + 1)) := all_step (f := fun v : Gr => groupMay v.data) h hk hv
theorem infoT : (Try.prog.info? 31).map (·.size) = some 131 := by kernel_rfl
end May
namespace Clone
open Go.ChangeShapes Go.WideShapes Go.ChangeAt Go.RowKit
open Tab Copy
open May (chain infoP infoG infoD infoR infoB)
end Clone
namespace Owned
open Go Go.RowKit
open Tab Copy
structure Blk where
  at_ : Nat
  cells : List Value
  type : TypeId
def Own (B : Nat) (w : World) (L : List Blk) : Prop := (L.map Blk.at_).Nodup ∧ ∀ x ∈ L, B ≤ x.at_ ∧ w.heap[x.at_]? = some (.cells x.cells.toArray x.type (0, 0))
variable {B : Nat} {w w' : World} {L M : List Blk} {x : Blk}
theorem Own.nil : Own B w [] := ⟨by simp, fun x h => by simp at h⟩
theorem Own.get (h : Own B w L) (hx : x ∈ L) : w.heap[x.at_]? = some (.cells x.cells.toArray x.type (0, 0)) := (h.2 x hx).2
theorem Own.base (h : Own B w L) (hx : x ∈ L) : B ≤ x.at_ := (h.2 x hx).1
theorem Own.lt (h : Own B w L) (hx : x ∈ L) : x.at_ < w.heap.size := (Array.getElem?_eq_some_iff.1 (h.get hx)).1
theorem Own.step (h : Own B w L) (hb : Below w.heap.size w w') : Own B w' L := ⟨h.1, fun x hx => ⟨h.base hx, by rw [hb.block _ (h.lt hx)]; exact h.get hx⟩⟩
theorem Own.tail (h : Own B w (x :: L)) : Own B w L := ⟨(List.nodup_cons.1 h.1).2, fun y hy => h.2 y (List.mem_cons_of_mem _ hy)⟩
/-- A new block. -/
theorem Own.add (h : Own B w L) (hb : Below w.heap.size w w') {g : Nat} {cs : List Value} {t : TypeId} (hg : w'.heap[g]? = some (.cells cs.toArray t (0, 0))) (hn : w.heap.size ≤ g) (hB : B ≤ w.heap.size) : Own B w' (⟨g, cs, t⟩ :: L) := by
  refine ⟨List.nodup_cons.2 ⟨fun hm => ?_, h.1⟩, fun y hy => ?_⟩
  · obtain ⟨y, hy, e⟩ := List.mem_map.1 hm
    have := h.lt hy
    have e' : y.at_ = g := e
    omega
  · rcases List.mem_cons.1 hy with rfl | hy
    · exact ⟨Nat.le_trans hB hn, hg⟩
    · exact (h.step hb).2 y hy
/-- The first block is written. -/
theorem Own.write (h : Own B w (x :: L)) {cs : List Value} (hg : w'.heap[x.at_]? = some (.cells cs.toArray x.type (0, 0))) (ho : ∀ j, j ≠ x.at_ → w'.heap[j]? = w.heap[j]?) : Own B w' (⟨x.at_, cs, x.type⟩ :: L) := by
  have hx := (List.nodup_cons.1 h.1).1
  refine ⟨List.nodup_cons.2 ⟨hx, (List.nodup_cons.1 h.1).2⟩, fun y hy => ?_⟩
  rcases List.mem_cons.1 hy with rfl | hy
  · exact ⟨(h.base (x := x) (List.mem_cons_self ..) : B ≤ x.at_), hg⟩
  · have hne : y.at_ ≠ x.at_ := fun e => hx (List.mem_map.2 ⟨y, hy, e⟩)
    exact ⟨h.base (List.mem_cons_of_mem _ hy), by rw [ho _ hne]; exact h.get (List.mem_cons_of_mem _ hy)⟩
theorem Own.cell (h : Own B w L) (hx : x ∈ L) (i : Nat) : w.cell? ⟨x.at_, i, none⟩ = x.cells[i]? := by
  rw [cell_of_row _ _ _ _ _ _ (h.get hx)]; simp
theorem Own.frozen (h : Own B w L) (hx : x ∈ L) (i : Nat) : w.frozen? ⟨x.at_, i, none⟩ = false := frozen_of_row _ _ _ _ _ (h.get hx)
/-- What is below B stays as it is when one's own is written. -/
theorem below_write {a : World} (hb : Below B a w) {g i : Nat} (hg : B ≤ g) (v : Value) : Below B a (w.setCell ⟨g, i, none⟩ v) := hb.setCell (p := ⟨g, i, none⟩) hg v
end Owned
namespace Clone
open Go.ChangeShapes Go.WideShapes Go.ChangeAt Go.RowKit
open Tab Copy Owned
open May (chain infoP infoG infoD infoR infoB infoT)
/-- A group whose rows are blocks of their own. -/
structure NG where
  r0 : List Int
  r1 : List Int
  b0 : Nat
  b1 : Nat
def NG.gr (g : NG) : Gr := ⟨g.r0, g.r1, ⟨some ⟨g.b0, 0, none⟩, g.r0.length⟩, ⟨some ⟨g.b1, 0, none⟩, g.r1.length⟩⟩
def NG.blks (g : NG) : List Blk := [⟨g.b0, g.r0.flatMap (fun n => [I n]), 3⟩, ⟨g.b1, g.r1.flatMap (fun n => [I n]), 3⟩]
abbrev at0 (g n : Nat) : Sl := ⟨some ⟨g, 0, none⟩, n⟩
/-- Where a clone's parts lie. -/
def own (T : Tab) (ns : List NG) (G D R S : Nat) : List Blk :=
  ⟨G, (ns.map NG.gr).flatMap Gr.cells, 108⟩ :: ⟨D, T.dets.flatMap Det.cells, 65⟩ :: ⟨R, T.rails.flatMap Rl.cells, 88⟩ :: ⟨S, T.buses.flatMap Bs.cells, 91⟩ :: ns.flatMap NG.blks
def hd (T : Tab) (G D R S : Nat) : Hd := ⟨at0 G T.groups.length, at0 D T.dets.length, at0 R T.rails.length, at0 S T.buses.length⟩
section
variable {T : Tab} {ns : List NG} {G D R S : Nat}
end
/-! ### a table's cells, with a list moved -/
structure Eights (T : Tab) : Prop where
  p : T.phases.length = 8
  c : T.conflict.length = 8
  f : T.flash.length = 8
theorem Eights.tab {T : Tab} (k : Eights T) (h : Hd) (w : World) : CellsOk T h (T.cells h).toArray := by
  have h0 : IsTab w ⟨⟨none, 0⟩, ⟨none, 0⟩, ⟨none, 0⟩, ⟨none, 0⟩⟩ { T with groups := [], dets := [], rails := [], buses := [] } :=
    ⟨k.p, k.c, k.f, ⟨[], rfl, RowOf.nil w, fun g hg => by simp at hg⟩, RowOf.nil w, RowOf.nil w, RowOf.nil w⟩
  have := cells_ok h0
  obtain ⟨p0, p1, p2, p3, p4, p5, p6, p7, hp⟩ := eight k.p
  obtain ⟨c0, c1, c2, c3, c4, c5, c6, c7, hc⟩ := eight k.c
  obtain ⟨f0, f1, f2, f3, f4, f5, f6, f7, hf⟩ := eight k.f
  clear k
  obtain ⟨phases, groups, conflict, dets, rails, buses, extend, budget, start, revert, least, flash, window, share⟩ := T
  simp only at hp hc hf
  subst hp hc hf
  clear this h0
  constructor
  all_goals try rfl
  case one => simp [Tab.cells, Ph.cells, Value.oneCell']
  intro i p hp
  match i, hp with
  | 0, hp | 1, hp | 2, hp | 3, hp | 4, hp | 5, hp | 6, hp | 7, hp =>
    obtain rfl := Option.some.inj hp
    rfl
  | i + 8, hp => cases hp
/-- The zero table. -/
def zPh : Ph := ⟨false, 0, 0, 0, 0, 0, 0, 0, 0, 0, 0, false, false⟩
def zTab : Tab := ⟨List.replicate 8 zPh, [], List.replicate 8 0, [], [], [], 0, 0, 0, 0, 0, List.replicate 8 0, 0, 0⟩
def zHd : Hd := ⟨⟨none, 0⟩, ⟨none, 0⟩, ⟨none, 0⟩, ⟨none, 0⟩⟩
theorem info31 : (Try.prog.info? 31).map (fun i => (i.zero, i.size)) = some (some (.agg (zTab.cells zHd).toArray), 131) := by kernel_rfl
theorem z_is (w : World) : IsTab w zHd zTab := ⟨rfl, rfl, rfl, ⟨[], rfl, RowOf.nil w, fun g hg => by simp at hg⟩, RowOf.nil w, RowOf.nil w, RowOf.nil w⟩
end Clone
namespace Held
open Go Go.RowKit
open Tab
section
variable {P : Program} {ops : Array Oper} {Q : Exit → Act → World → Prop} {md : Region.Mode} {S : World → Prop}
theorem take {i : Nat} {oi : Oper} (d0 : Option Tmp) (hd0 : oi.dst = d0) {fuel : Nat} {listed : Array Bool} {a : Act} {w : World} {v : Value} (hi : ops[i]? = some oi) (hs : Region.noSelect ops = true) (hf : Region.free md ops listed i = true) (hr : (Region.ready md ops listed).contains i = true)
    (hQ : ∀ c a w, Q (.panic c) (a.put d0 v) w → Q (.panic c) a w) (hy : YieldsIf P ops S oi v a) (hS : S w)
    (h : wpAnyH P md ops Q S fuel (listed.setIfInBounds i true) (a.put d0 v) w) : wpAnyH P md ops Q S (fuel + 1) listed a w :=
  by
  subst hd0
  exact wpAnyH_take hi hs hf hr hQ hy hS h
theorem take_load {i : Nat} {oi : Oper} (d0 : Option Tmp) (hd0 : oi.dst = d0) {fuel : Nat} {listed : Array Bool} {a : Act} {w : World} (ty : TypeId) (x : Operand) (y : Addr) (cs : List Value) (d : TypeDesc) (hi : ops[i]? = some oi) (ho : oi.op = .load ty x) (hs : Region.noSelect ops = true) (hf : Region.free md ops listed i = true) (hr : (Region.ready md ops listed).contains i = true)
    (hQ : ∀ c a w, Q (.panic c) (a.put d0 (.agg cs.toArray)) w → Q (.panic c) a w) (hw : Region.wanted oi (yielded ops a.tmps) = true) (hS : S w) (hx : a.eval x = .pointer (some y)) (hc : ∀ w, S w → Lies w y cs) (hu : P.underlying ty = some d) (hd : d.isRow = true) (hz : (P.info? ty).map (·.size) = some cs.length)
    (h : wpAnyH P md ops Q S fuel (listed.setIfInBounds i true) (a.put d0 (.agg cs.toArray)) w) : wpAnyH P md ops Q S (fuel + 1) listed a w :=
  by
  subst hd0
  exact wpAnyH_take hi hs hf hr hQ (.inl ⟨hw, fun w' hw' => by
    unfold execOp
    simp only [ho, hx, Instr.loadAt, Instr.sureAddr, Sem.run_bind, Sem.run_pure, Result.andThen_ok, Row.run_loadVar_lies w' y ty cs d (hc w' hw') hu hd hz]⟩) hS h
theorem take_build {i : Nat} {oi : Oper} (d0 : Option Tmp) (hd0 : oi.dst = d0) {fuel : Nat} {listed : Array Bool} {a : Act} {w : World} (t : TypeId) (parts : Array (Nat × Operand)) (cells : Array Value) (hi : ops[i]? = some oi) (ho : oi.op = .build t parts) (hs : Region.noSelect ops = true) (hf : Region.free md ops listed i = true) (hr : (Region.ready md ops listed).contains i = true)
    (hQ : ∀ c a w, Q (.panic c) (a.put d0 (.agg cells)) w → Q (.panic c) a w) (hw : Region.wanted oi (yielded ops a.tmps) = true) (hS : S w) (hb : P.built t (parts.map fun (i, x) => (i, a.eval x)).toList = some cells)
    (h : wpAnyH P md ops Q S fuel (listed.setIfInBounds i true) (a.put d0 (.agg cells)) w) : wpAnyH P md ops Q S (fuel + 1) listed a w :=
  by
  subst hd0
  exact wpAnyH_take hi hs hf hr hQ (.inl ⟨hw, fun w' _ => by
    unfold execOp
    simp only [ho, Sem.run_bind, run_build w' t _ _ hb, Result.andThen_ok, Sem.run_pure]⟩) hS h
/-- A struct literal of one part. -/
theorem wpList_build1 {rest : List Oper} {o : Oper} {a : Act} {w : World} (hgd : o.guard = none) (t : TypeId) (k : Nat) (x : Operand) (ho : o.op = .build t #[(k, x)]) (v : Value) (hv : a.eval x = v) (cells : Array Value) (hb : P.built t [(k, v)] = some cells)
    (h : wpList P ops Q rest (a.put o.dst (.agg cells)) w) : wpList P ops Q (o :: rest) a w :=
  wpList_plain hgd fun _ hK => by
    subst hv
    unfold Oper.wp execOp
    have hb' : P.built t ((#[(k, x)] : Array (Nat × Operand)).map fun (i, x) => (i, a.eval x)).toList = some cells := by simpa using hb
    simp only [ho, Sem.run_bind, run_build w t _ _ hb', Result.andThen_ok, Sem.run_pure]
    exact hK _ _ h
end
end Held
end Go.Proofs.Ytneaomdgjlmleaa
