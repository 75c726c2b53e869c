/- 20 texts in one file, in build order. -/
import Derived.Test.YtjgpljnbeolapaaPart01
import Derived.Test.YtjgpljnbeolapaaRows
import Derived.OwnWalk
import Derived.WalkKit
import Derived.ProofKit
import Derived.IntWalk
import Derived.Lib.Hide
import Derived.LoopTactic
import Derived.Below
import Derived.BigQuiet
import Derived.Deep.QuietTactic
import Derived.Deep.Cut
import Derived.Laws.CopyOwn
set_option linter.unusedVariables false
set_option linter.unusedSimpArgs false
set_option linter.unusedSectionVars false
set_option maxHeartbeats 8000000
set_option maxRecDepth 100000
namespace Go.Proofs.Ytjgpljnbeolapaa
namespace PlanM
open Go Tab PlaceM
def Lt (x y : Spt) : Prop := x.g < y.g ∨ x.g = y.g ∧ (x.k < y.k ∨ x.k = y.k ∧ x.i < y.i)
theorem mem_one {g k i : Nat} {p : Int} {x : Spt} : x ∈ one g k i p ↔ x = ⟨g, k, i, p⟩ ∧ 0 ≤ p ∧ p < 8 := by
  unfold one
  split
  · rename_i h; simp [h]
  · rename_i h
    constructor
    · intro hx; simp at hx
    · intro hx; exact absurd hx.2 h
theorem mem_row {g k : Nat} {x : Spt} : ∀ {i : Nat} {l : List Int}, x ∈ rowS g k i l ↔ x.g = g ∧ x.k = k ∧ i ≤ x.i ∧ l[x.i - i]? = some x.p ∧ 0 ≤ x.p ∧ x.p < 8
  | i, [] => by simp [rowS]
  | i, p :: l => by
    rw [rowS, List.mem_append, mem_one, mem_row]
    constructor
    · rintro (⟨rfl, h1, h2⟩ | ⟨h1, h2, h3, h4, h5⟩)
      · exact ⟨rfl, rfl, Nat.le_refl _, by simp, h1, h2⟩
      · refine ⟨h1, h2, by omega, ?_, h5⟩
        rw [show x.i - i = (x.i - (i + 1)) + 1 by omega, List.getElem?_cons_succ]; exact h4
    · rintro ⟨h1, h2, h3, h4, h5, h6⟩
      by_cases e : x.i = i
      · left
        rw [e, Nat.sub_self, List.getElem?_cons_zero] at h4
        obtain rfl := Option.some.inj h4
        obtain ⟨a, b, c, d⟩ := x
        simp only at h1 h2 e h5 h6 ⊢
        subst h1 h2 e
        exact ⟨rfl, h5, h6⟩
      · right
        refine ⟨h1, h2, by omega, ?_, h5, h6⟩
        rw [show x.i - i = (x.i - (i + 1)) + 1 by omega, List.getElem?_cons_succ] at h4; exact h4
/-- A group's row by its number. -/
def ringOf (y : List Int × List Int) (k : Nat) : List Int := if k = 0 then y.1 else if k = 1 then y.2 else []
theorem mem_all {x : Spt} : ∀ {g : Nat} {l : List (List Int × List Int)}, x ∈ allS g l ↔ g ≤ x.g ∧ ∃ y, l[x.g - g]? = some y ∧ (ringOf y x.k)[x.i]? = some x.p ∧ 0 ≤ x.p ∧ x.p < 8
  | g, [] => by simp [allS]
  | g, y :: l => by
    rw [allS, grpS, List.mem_append, List.mem_append, mem_row, mem_row, mem_all]
    constructor
    · rintro ((⟨h1, h2, h3, h4, h5⟩ | ⟨h1, h2, h3, h4, h5⟩) | ⟨h1, z, h2, h3⟩)
      · exact ⟨by omega, y, by rw [h1, Nat.sub_self]; rfl, by rw [h2]; simpa [ringOf] using h4, h5⟩
      · exact ⟨by omega, y, by rw [h1, Nat.sub_self]; rfl, by rw [h2]; simpa [ringOf] using h4, h5⟩
      · exact ⟨by omega, z, by rw [show x.g - g = (x.g - (g + 1)) + 1 by omega, List.getElem?_cons_succ]; exact h2, h3⟩
    · rintro ⟨h1, z, h2, h3, h4⟩
      by_cases e : x.g = g
      · left
        rw [e, Nat.sub_self, List.getElem?_cons_zero] at h2
        obtain rfl := Option.some.inj h2
        unfold ringOf at h3
        by_cases e0 : x.k = 0
        · rw [if_pos e0] at h3
          exact .inl ⟨e, e0, Nat.zero_le _, h3, h4⟩
        · rw [if_neg e0] at h3
          by_cases e1 : x.k = 1
          · rw [if_pos e1] at h3
            exact .inr ⟨e, e1, Nat.zero_le _, h3, h4⟩
          · rw [if_neg e1] at h3
            simp at h3
      · right
        rw [show x.g - g = (x.g - (g + 1)) + 1 by omega, List.getElem?_cons_succ] at h2
        exact ⟨by omega, z, h2, h3, h4⟩
theorem mem_spots {T : Tab} {x : Spt} : x ∈ spots T ↔ ∃ y, T.groups[x.g]? = some y ∧ (ringOf y x.k)[x.i]? = some x.p ∧ 0 ≤ x.p ∧ x.p < 8 := by
  unfold spots
  rw [mem_all]
  simp
theorem one_sorted (g k i : Nat) (p : Int) : (one g k i p).Pairwise Lt := by unfold one; split <;> simp
theorem row_sorted (g k : Nat) : ∀ (i : Nat) (l : List Int), (rowS g k i l).Pairwise Lt
  | i, [] => List.Pairwise.nil
  | i, p :: l => by
    rw [rowS, List.pairwise_append]
    refine ⟨one_sorted g k i p, row_sorted g k (i + 1) l, fun x hx y hy => ?_⟩
    obtain ⟨rfl, _⟩ := mem_one.1 hx
    obtain ⟨h1, h2, h3, _⟩ := mem_row.1 hy
    unfold Lt
    simp only
    omega
theorem all_sorted : ∀ (g : Nat) (l : List (List Int × List Int)), (allS g l).Pairwise Lt
  | g, [] => List.Pairwise.nil
  | g, y :: l => by
    rw [allS, grpS, List.pairwise_append, List.pairwise_append]
    refine ⟨⟨row_sorted g 0 0 y.1, row_sorted g 1 0 y.2, fun x hx z hz => ?_⟩, all_sorted (g + 1) l, fun x hx z hz => ?_⟩
    · obtain ⟨h1, h2, _⟩ := mem_row.1 hx
      obtain ⟨h3, h4, _⟩ := mem_row.1 hz
      unfold Lt
      omega
    · obtain ⟨h1, _⟩ := mem_all.1 hz
      have h2 : x.g = g := by
        rcases List.mem_append.1 hx with hx | hx
        · exact (mem_row.1 hx).1
        · exact (mem_row.1 hx).1
      unfold Lt
      omega
theorem spots_sorted (T : Tab) : (spots T).Pairwise Lt := all_sorted 0 _
theorem find_hit {c : Spt → Bool} {x : Spt} : ∀ {l : List Spt}, l.Pairwise Lt → x ∈ l → c x = true → (∀ y ∈ l, Lt y x → c y = false) → l.find? c = some x
  | [], _, hx, _, _ => by simp at hx
  | y :: l, hp, hx, hc, hn => by
    rw [List.pairwise_cons] at hp
    rcases List.mem_cons.1 hx with rfl | hx
    · rw [List.find?_cons, hc]
    · rw [List.find?_cons, hn y (by simp) (hp.1 x hx)]
      exact find_hit hp.2 hx hc (fun z hz => hn z (by simp [hz]))
/-- A group's rows, none where there is no group. -/
def rowsAt (T : Tab) (g : Int) : List Int × List Int := if 0 ≤ g ∧ g < T.groups.length then T.groups.getD g.toNat ([], []) else ([], [])
def ringAt (T : Tab) (g r : Int) : List Int := if r = 0 then (rowsAt T g).1 else if r = 1 then (rowsAt T g).2 else []
theorem rows_in {T : Tab} {g : Nat} {y : List Int × List Int} (h : T.groups[g]? = some y) : rowsAt T g = y := by
  have hg : g < T.groups.length := (List.getElem?_eq_some_iff.1 h).1
  unfold rowsAt
  rw [if_pos ⟨by omega, by omega⟩, Int.toNat_natCast, List.getD_eq_getElem?_getD, h]; rfl
theorem rows_out {T : Tab} {g : Int} (h : ¬ (0 ≤ g ∧ g < T.groups.length)) : rowsAt T g = ([], []) := by unfold rowsAt; rw [if_neg h]
theorem mem_ringAt {T : Tab} {x : Spt} : x ∈ spots T ↔ (ringAt T x.g x.k)[x.i]? = some x.p ∧ 0 ≤ x.p ∧ x.p < 8 := by
  rw [mem_spots]
  have e0 : ((x.k : Int) = 0) ↔ x.k = 0 := by omega
  have e1 : ((x.k : Int) = 1) ↔ x.k = 1 := by omega
  constructor
  · rintro ⟨y, h1, h2, h3⟩
    refine ⟨?_, h3⟩
    unfold ringAt
    rw [rows_in h1]
    simpa only [ringOf, e0, e1] using h2
  · rintro ⟨h1, h2⟩
    by_cases hg : x.g < T.groups.length
    · have hy := List.getElem?_eq_getElem hg
      refine ⟨_, hy, ?_, h2⟩
      unfold ringAt at h1
      rw [rows_in hy] at h1
      simpa only [ringOf, e0, e1] using h1
    · unfold ringAt at h1
      rw [rows_out (by omega)] at h1
      simp at h1
/-- P8.1, Members: a group's set. -/
def membS (T : Tab) (g : Int) : Nat := SetM.of (rowsAt T g).1 ||| SetM.of (rowsAt T g).2
/-- The first index of a row behind 'at' whose phase is in the set; -1 if there is none. -/
def nextIn (l : List Int) (a want : Int) : Int := match (List.range l.length).find? (fun i : Nat => decide (a < (i : Int)) && SetM.has want (l.getD i 0)) with
  | some i => i
  | none => -1
/-- P8.1, Next. -/
def nextS (T : Tab) (g r a want : Int) : Int := nextIn (ringAt T g r) a want
theorem range_hit {c : Nat → Bool} {n i : Nat} (hi : i < n) (hc : c i = true) (hn : ∀ j, j < i → c j = false) : (List.range n).find? c = some i := by
  rw [List.find?_range_eq_some]
  exact ⟨hc, List.mem_range.2 hi, fun j hj => by rw [hn j hj]; rfl⟩
theorem range_miss {c : Nat → Bool} {n : Nat} (hn : ∀ j, j < n → c j = false) : (List.range n).find? c = none := by
  rw [List.find?_eq_none]
  intro x hx
  rw [hn x (List.mem_range.1 hx)]; simp
theorem next_hit {l : List Int} {a want : Int} {i : Nat} (hi : i < l.length) (h1 : a < i) (h2 : SetM.has want (l.getD i 0) = true) (hn : ∀ j, j < i → ¬ (a < (j : Int) ∧ SetM.has want (l.getD j 0) = true)) : nextIn l a want = i := by
  unfold nextIn
  rw [range_hit hi (by rw [h2, decide_eq_true h1]; rfl) (fun j hj => by
    have := hn j hj
    rw [Bool.and_eq_false_iff, decide_eq_false_iff_not, ← Bool.not_eq_true]
    by_cases e : a < (j : Int)
    · exact .inr (fun h => this ⟨e, h⟩)
    · exact .inl e)]
theorem next_miss {l : List Int} {a want : Int} (hn : ∀ j, j < l.length → ¬ (a < (j : Int) ∧ SetM.has want (l.getD j 0) = true)) : nextIn l a want = -1 := by
  unfold nextIn
  rw [range_miss (fun j hj => by
    have := hn j hj
    rw [Bool.and_eq_false_iff, decide_eq_false_iff_not, ← Bool.not_eq_true]
    by_cases e : a < (j : Int)
    · exact .inr (fun h => this ⟨e, h⟩)
    · exact .inl e)]
theorem next_nil (a want : Int) : nextIn [] a want = -1 := rfl
theorem has_range {s p : Int} (h : SetM.has s p = true) : 0 ≤ p ∧ p < 8 := SetM.list_bd s p ((SetM.mem_list s p).2 h)
/-- P8.1, Following. -/
def fromG (T : Tab) (g : Int) : Int := if 0 ≤ g ∧ g < T.groups.length then g else T.groups.length - 1
def folC (T : Tab) (g want : Int) (i : Nat) : Bool := decide (bits .and .i64 (membS T ((fromG T g + 1 + i) % T.groups.length) : Nat) want ≠ 0)
def followS (T : Tab) (g want : Int) : Int := match (List.range T.groups.length).find? (folC T g want) with
  | some i => (fromG T g + 1 + i) % T.groups.length
  | none => -1
theorem follow_hit {T : Tab} {g want : Int} {i : Nat} (hi : i < T.groups.length) (hc : folC T g want i = true) (hn : ∀ j, j < i → folC T g want j = false) : followS T g want = (fromG T g + 1 + i) % T.groups.length := by
  unfold followS
  rw [range_hit hi hc hn]
theorem follow_miss {T : Tab} {g want : Int} (hn : ∀ j, j < T.groups.length → folC T g want j = false) : followS T g want = -1 := by
  unfold followS
  rw [range_miss hn]
end PlanM
namespace SetM
theorem has_of (m : Nat) (h : m < 256) (p : Int) : has (m : Int) p = (decide (0 ≤ p) && m.testBit p.toNat) := by unfold has; rw [low_nat m h]
theorem has_with (s p q : Int) : has (withN s p : Nat) q = (has s q || (bit p != 0 && q == p)) := by
  rw [has_of _ (with_lt s p)]
  unfold withN
  by_cases h0 : 0 ≤ q
  · obtain ⟨k, rfl⟩ := Int.eq_ofNat_of_zero_le h0
    rw [decide_eq_true h0, Bool.true_and, Nat.testBit_or, Int.toNat_natCast, has_nat, test_bit]
    congr 1
    rw [Bool.eq_iff_iff, decide_eq_true_iff, Bool.and_eq_true, bne_iff_ne, beq_iff_eq]
    constructor
    · rintro ⟨e, h8⟩
      rw [← e, bit_in k h8]
      exact ⟨Nat.ne_of_gt (Nat.two_pow_pos k), rfl⟩
    · rintro ⟨h1, e⟩
      refine ⟨e, ?_⟩
      by_cases h8 : k < 8
      · exact h8
      · exact absurd (bit_out (p := p) (by omega)) h1
  · rw [decide_eq_false h0, Bool.false_and, has_neg s q (by omega), Bool.false_or]
    symm
    rw [Bool.and_eq_false_iff]
    by_cases e : q = p
    · left; rw [bit_out (by omega)]; rfl
    · right; simpa using e
end SetM
namespace RefS
open Go.ChangeShapes Go.WideShapes Go.ChangeAt Go.RowKit
open Go.Proofs.Ytjgpljnbeolapaa
theorem ret_int {k : IntKind} {a b : Int} (h : a = b) : Ending.returned (.int k a) = .returned (.int k b) := by rw [h]
theorem ret_bool {a b : Bool} (h : a = b) : Ending.returned (.bool a) = .returned (.bool b) := by rw [h]
theorem eight {p : Int} (h : 0 ≤ p) (h' : p < 8) : p = 0 ∨ p = 1 ∨ p = 2 ∨ p = 3 ∨ p = 4 ∨ p = 5 ∨ p = 6 ∨ p = 7 := by omega
theorem shr_has (s : Int) (k : Nat) (h : k < 8) : (bits .and .i64 (s / 2 ^ k) 1 == 1) = SetM.has s k := by
  rw [SetM.has_shr s k h]
  cases SetM.has s k <;> rfl
theorem rhas_any (s p : Int) (w : World) : Calls Try.prog 14 #[.int .i64 s, .int .i64 p] w fun e w' => e = .returned (.bool (SetM.has s p)) ∧ w = w' := by
  by_cases h1 : p < 0
  · have HB := Lib.hid (SetM.has_neg s p h1)
    go_enter Try.func14, Try.ntmps14
    go_wp2
    go_ret
    exact ⟨ret_bool HB.out.symm, rfl⟩
  by_cases h2 : 8 ≤ p
  · have HB := Lib.hid (SetM.has_big s p h2)
    go_enter Try.func14, Try.ntmps14
    go_wp2
    go_ret
    exact ⟨ret_bool HB.out.symm, rfl⟩
  rcases eight (p := p) (by omega) (by omega) with rfl | rfl | rfl | rfl | rfl | rfl | rfl | rfl
  · have HB := Lib.hid (show (bits .and .i64 s 1 == 1) = SetM.has s 0 from by have := shr_has s 0 (by decide); simpa using this)
    clear h1 h2
    go_enter Try.func14, Try.ntmps14
    go_wp2
    go_ret
    exact ⟨ret_bool HB.out, rfl⟩
  · have HB := Lib.hid (show (bits .and .i64 (s / 2) 1 == 1) = SetM.has s 1 from shr_has s 1 (by decide))
    clear h1 h2
    go_enter Try.func14, Try.ntmps14
    go_wp2
    go_ret
    exact ⟨ret_bool HB.out, rfl⟩
  · have HB := Lib.hid (show (bits .and .i64 (s / 4) 1 == 1) = SetM.has s 2 from shr_has s 2 (by decide))
    clear h1 h2
    go_enter Try.func14, Try.ntmps14
    go_wp2
    go_ret
    exact ⟨ret_bool HB.out, rfl⟩
  · have HB := Lib.hid (show (bits .and .i64 (s / 8) 1 == 1) = SetM.has s 3 from shr_has s 3 (by decide))
    clear h1 h2
    go_enter Try.func14, Try.ntmps14
    go_wp2
    go_ret
    exact ⟨ret_bool HB.out, rfl⟩
  · have HB := Lib.hid (show (bits .and .i64 (s / 16) 1 == 1) = SetM.has s 4 from shr_has s 4 (by decide))
    clear h1 h2
    go_enter Try.func14, Try.ntmps14
    go_wp2
    go_ret
    exact ⟨ret_bool HB.out, rfl⟩
  · have HB := Lib.hid (show (bits .and .i64 (s / 32) 1 == 1) = SetM.has s 5 from shr_has s 5 (by decide))
    clear h1 h2
    go_enter Try.func14, Try.ntmps14
    go_wp2
    go_ret
    exact ⟨ret_bool HB.out, rfl⟩
  · have HB := Lib.hid (show (bits .and .i64 (s / 64) 1 == 1) = SetM.has s 6 from shr_has s 6 (by decide))
    clear h1 h2
    go_enter Try.func14, Try.ntmps14
    go_wp2
    go_ret
    exact ⟨ret_bool HB.out, rfl⟩
  · have HB := Lib.hid (show (bits .and .i64 (s / 128) 1 == 1) = SetM.has s 7 from shr_has s 7 (by decide))
    clear h1 h2
    go_enter Try.func14, Try.ntmps14
    go_wp2
    go_ret
    exact ⟨ret_bool HB.out, rfl⟩
theorem info3 : (Try.prog.info? 3).map (fun i => (i.zero, i.size, i.bytes)) = some (some (.int .i64 0), 1, 8) := by kernel_rfl
/-- A slice of its own memory (laid since B) that holds the integers l; nil just where there are none. -/
def Owns (B : Nat) (W : World) (v : Value) (l : List Int) : Prop := W.ownsRow B 3 1 v l.length (l.map (Value.int .i64)) ∧ (v = .slice none 0 0 ↔ l = [])
/-- What a function hands back that gathers integers. -/
def Gave (w : World) (l : List Int) (e : Ending) (W' : World) : Prop := ∃ v, e = .returned v ∧ Owns w.heap.size W' v l ∧ Below w.heap.size w W'
theorem row_blk {W : World} {n₀ e size k : Nat} {v : Value} {xs : List Value} (h : W.ownsRow n₀ e size v k xs) (j : Nat) (hj : v.ownBlock = some j) : n₀ ≤ j := by
  rcases h.2 with ⟨rfl, _⟩ | ⟨g, cap, cur, rfl, hb, _, _⟩
  · simp [Value.ownBlock] at hj
  · obtain rfl : g = j := by simpa [Value.ownBlock] using hj
    exact hb
theorem map_snoc (pre : List Int) (x : Int) : pre.map (Value.int .i64) ++ [.int .i64 x] = (pre ++ [x]).map (Value.int .i64) := by simp
theorem add_zero (x : Addr) : x.add 0 = x := by cases x; simp [Addr.add]
/-- A slice's address under which the integers l lie. -/
def Row (w : World) (a : Option Addr) (l : List Int) : Prop := l.length ≤ maxLen ∧ (l = [] ∨ ∃ x, a = some x ∧ ∀ i, i < l.length → w.cell? (x.add i) = some (.int .i64 (l.getD i 0)))
theorem Row.cells {w : World} {a : Option Addr} {l : List Int} (h : Row w a l) {k : Nat} (hk : k < l.length) : ∃ x, a = some x ∧ ∀ i, i < l.length → w.cell? (x.add i) = some (.int .i64 (l.getD i 0)) := by
  rcases h.2 with rfl | h
  · simp at hk
  · exact h
theorem Row.below {w w' : World} {a : Option Addr} {l : List Int} (h : Row w a l) (hb : Below w.heap.size w w') : Row w' a l := by
  refine ⟨h.1, ?_⟩
  rcases h.2 with h | ⟨x, hx, hc⟩
  · exact .inl h
  · exact .inr ⟨x, hx, fun i hi => (hb.cell (World.block_lt_of_cell? w _ (hc i hi))).trans (hc i hi)⟩
/-- What a function has gathered reads as a row. -/
theorem row_of {B : Nat} {w : World} {v : Value} {l : List Int} (h : Owns B w v l) : ∃ a cap, v = .slice a l.length cap ∧ Row w a l := by
  rcases h.1.2 with ⟨rfl, h0⟩ | ⟨g, cap, cur, rfl, h1, h2, h3, h4, h5, h6⟩
  · have : l = [] := h.2.1 rfl
    subst this
    exact ⟨none, 0, rfl, Nat.zero_le _, .inl rfl⟩
  · refine ⟨_, cap, rfl, by omega, .inr ⟨_, rfl, fun i hi => ?_⟩⟩
    exact h.1.cells (g := g) rfl i (.int .i64 (l.getD i 0)) (by rw [List.getElem?_map, List.getD_eq_getElem?_getD, List.getElem?_eq_getElem hi]; rfl)
theorem take_succ (l : List Int) (k : Nat) (h : k < l.length) : l.take (k + 1) = l.take k ++ [l.getD k 0] := by
  rw [List.take_succ_eq_append_getElem h, List.getD_eq_getElem?_getD, List.getElem?_eq_getElem h]; rfl
theorem or_small (m b : Nat) (hm : m < 256) (hb : b < 256) : bits .or .i64 (m : Int) (b : Int) = ((m ||| b : Nat) : Int) :=
  (bits_nat .i64 8 (by decide) (fun n h0 h1 => by rw [IntKind.wrap_i64]; omega) m b hm hb).2
theorem ref_lt (l : List Int) (k : Nat) (h : k ≤ 8) : SetM.refOf l k < 256 := Nat.lt_of_lt_of_le (SetM.refOf_lt l k) (Nat.pow_le_pow_right (n := 2) (by decide) h : 2 ^ k ≤ 2 ^ 8)
theorem ref_or (l : List Int) (k : Nat) (h : k < 8) (hm : (k : Int) ∈ l) : bits .or .i64 (SetM.refOf l k : Nat) ((2 ^ k : Nat) : Int) = (SetM.refOf l (k + 1) : Nat) := by
  rw [or_small _ _ (ref_lt l k (by omega)) (show 2 ^ k < 2 ^ 8 from Nat.pow_lt_pow_right (by decide) h), SetM.refOf_hit l k hm]
theorem wrap_pow (k : Nat) (h : k < 8) : wrap64 ((2 : Int) ^ k) = ((2 ^ k : Nat) : Int) := by
  have h3 : k = 0 ∨ k = 1 ∨ k = 2 ∨ k = 3 ∨ k = 4 ∨ k = 5 ∨ k = 6 ∨ k = 7 := by omega
  rcases h3 with rfl | rfl | rfl | rfl | rfl | rfl | rfl | rfl <;> decide +kernel
theorem ref_or2 (l : List Int) (k : Nat) (h : k < 8) (hm : (k : Int) ∈ l) : bits .or .i64 (SetM.refOf l k : Nat) (wrap64 ((2 : Int) ^ k)) = (SetM.refOf l (k + 1) : Nat) := by
  rw [wrap_pow k h, ref_or l k h hm]
/-- The first place of a number that is there. -/
theorem first_at {l : List Int} {p : Int} (h : p ∈ l) : ∃ j, j < l.length ∧ l.getD j 0 = p ∧ ∀ i, i < j → l.getD i 0 ≠ p := by
  induction l with
  | nil => simp at h
  | cons y l ih =>
    by_cases e : y = p
    · exact ⟨0, by simp, by simpa using e, fun i hi => by omega⟩
    · obtain ⟨j, h1, h2, h3⟩ := ih (by simpa [Ne.symm e] using h)
      refine ⟨j + 1, by simp; omega, by simpa using h2, fun i hi => ?_⟩
      cases i with
      | zero => simpa using e
      | succ i => simpa using h3 i (by omega)
theorem rof_any (a : Option Addr) (cap : Nat) (l : List Int) (w : World) (h : Row w a l) :
    Calls Try.prog 51 #[.slice a l.length cap] w fun e w' => e = .returned (.int .i64 (SetM.of l : Nat)) ∧ w = w' := by
  have h1 := h.1
  unfold maxLen at h1
  have Hr := Lib.hid h
  clear h
  go_enter Try.func51, Try.ntmps51
  go_wp2
  go_loop [3, 4] (fun t p => ∃ k : Nat, k ≤ 8 ∧ p = .int .i64 k ∧ t = .int .i64 (SetM.refOf l k : Nat)) (fun _ p => 8 - (intOf p).toNat)
  case atStart => exact ⟨0, Nat.zero_le _, rfl, rfl⟩
  case round =>
    obtain ⟨k, hk, rfl, rfl⟩ := hrel
    by_cases hlt : k < 8
    · by_cases hm : (k : Int) ∈ l
      · have HS := Lib.hid (ref_or2 l k hlt hm)
        obtain ⟨j, hj, hjk, hjn⟩ := first_at hm
        have Hj := Lib.hid hjk
        have Hn := Lib.hid hjn
        clear hjk hjn hm
        go_wp2
        go_loop [3, 5] (fun t i => ∃ m : Nat, m ≤ j ∧ i = .int .i64 m ∧ t = .int .i64 (SetM.refOf l k : Nat)) (fun _ i => j - (intOf i).toNat)
        case atStart => exact ⟨0, Nat.zero_le _, rfl, rfl⟩
        case round =>
          obtain ⟨m, hm, rfl, rfl⟩ := hrel
          have hml : m < l.length := by omega
          obtain ⟨x, rfl, hc⟩ := Hr.out.cells hml
          have hcell := hc m hml
          clear hc
          by_cases hmj : m < j
          · have hne := Hn.out m hmj
            generalize l.getD m 0 = y at hne hcell
            go_wp2
            go_round
            case rel => exact ⟨m + 1, by omega, by go_num, rfl⟩
            case measure => simp [intOf]; omega
          · obtain rfl : m = j := by omega
            rw [Hj.out] at hcell
            go_wp2
            go_round
            case rel => exact ⟨k + 1, by omega, by go_num, by rw [HS.out]⟩
            case measure => simp [intOf]; omega
      · have HS := Lib.hid (SetM.refOf_miss l k hm)
        have Hm : Hid (∀ i, i < l.length → l.getD i 0 ≠ (k : Int)) := Lib.hid (fun i hi e => hm (by rw [← e, List.getD_eq_getElem?_getD, List.getElem?_eq_getElem hi]; exact List.getElem_mem hi))
        clear hm
        go_wp2
        go_loop [3, 5] (fun t i => ∃ m : Nat, m ≤ l.length ∧ i = .int .i64 m ∧ t = .int .i64 (SetM.refOf l k : Nat)) (fun _ i => l.length - (intOf i).toNat)
        case atStart => exact ⟨0, Nat.zero_le _, rfl, rfl⟩
        case round =>
          obtain ⟨m, hm, rfl, rfl⟩ := hrel
          by_cases hml : m < l.length
          · obtain ⟨x, rfl, hc⟩ := Hr.out.cells hml
            have hcell := hc m hml
            clear hc
            have hne := Hm.out m hml
            generalize l.getD m 0 = y at hne hcell
            go_wp2
            go_round
            case rel => exact ⟨m + 1, by omega, by go_num, rfl⟩
            case measure => simp [intOf]; omega
          · go_wp2
            go_round
            case rel => exact ⟨k + 1, by omega, by go_num, by rw [HS.out]⟩
            case measure => simp [intOf]; omega
    · have HS := Lib.hid (SetM.refOf_eq l)
      obtain rfl : k = 8 := by omega
      go_wp2
      go_ret
      exact ⟨ret_int (by rw [HS.out]), rfl⟩
theorem list_snoc {B : Nat} {l : List Int} {x : Int} {v' : Value} {w1 : World} (h : w1.ownsRow B 3 1 v' (l.length + 1) (l.map (Value.int .i64) ++ [.int .i64 x])) (hn : ¬ v' = .slice none 0 0) : Owns B w1 v' (l ++ [x]) := by
  refine ⟨?_, ?_⟩
  · rw [List.length_append, ← map_snoc]; exact h
  · simp [hn]
theorem rlist_any (s : Int) (w : World) : Calls Try.prog 13 #[.int .i64 s] w (Gave w (SetM.list s)) := by
  obtain ⟨i0, hi, hz0, hz1, hz2⟩ := info_parts info3
  go_enter Try.func13, Try.ntmps13
  go_wp2
  go_loopw [3, 4] (fun v p wr => ∃ k : Nat, k ≤ 8 ∧ p = .int .i64 k ∧ Owns w.heap.size wr v (SetM.upto s k) ∧ Below w.heap.size w wr) (fun _ p _ => 8 - (intOf p).toNat)
  case atStart => exact ⟨0, Nat.zero_le _, rfl, ⟨World.ownsRow_nil _ _ _ _, by simp [SetM.upto_zero]⟩, Below.refl _ _⟩
  case round =>
    obtain ⟨k, hk, rfl, ⟨hown, hnil⟩, hbel⟩ := hrel
    have hB := hbel.size
    have Hn := Lib.hid hnil
    clear hnil
    by_cases hlt : k < 8
    · have hul := SetM.upto_len s k
      by_cases hh : SetM.has s k = true
      · have Hs := Lib.hid (SetM.upto_hit s k hh)
        go_wp2_with (first
          | (go_at_call 14; refine (rhas_any _ _ _).mono ?_; rintro e w' ⟨rfl, rfl⟩; rw [hh])
          | (at_builtin; refine wpList_append_own _ rfl _ _ 22 rfl w.heap.size 3 i0 (.int .i64 0) 1 8 Try.underlying22 hi hz0 hz1 hz2 rfl (by decide) _ _ _ rfl (hown.alloc _) ⟨wr.heap.size, 0, none⟩ 1 1 [.int .i64 (k : Int)] rfl rfl ?c1 ?c2 ?c3 ?c4 ?c5 ?_))
        case c1 =>
          intro j u hj
          match j, hj with
          | 0, hj => simp at hj; subst hj; simp [Addr.add]
        case c2 => intro u hu; simp at hu; subst hu; rfl
        case c3 => unfold maxLen; omega
        case c4 => omega
        case c5 => simp; omega
        intro v' w1 hown' hgrow hnil'
        have hbel' : Below w.heap.size w w1 := (hbel.alloc (by omega) _).grown hgrow (by simp; omega) fun j hj => row_blk hown j hj
        have Hown := Lib.hid (list_snoc hown' hnil')
        clear hown' hgrow hown hnil'
        go_wp2
        go_roundw
        case rel => exact ⟨k + 1, by omega, by go_num, by rw [Hs.out]; exact Hown.out, hbel'⟩
        case measure => simp [intOf]; omega
      · have hh' : SetM.has s k = false := by simpa using hh
        have Hs := Lib.hid (SetM.upto_miss s k hh')
        clear hh
        go_wp2_with (go_at_call 14; refine (rhas_any _ _ _).mono ?_; rintro e w' ⟨rfl, rfl⟩; rw [hh'])
        go_roundw
        case rel => exact ⟨k + 1, by omega, by go_num, by rw [Hs.out]; exact ⟨hown, Hn.out⟩, hbel⟩
        case measure => simp [intOf]; omega
    · obtain rfl : k = 8 := by omega
      go_wp2
      go_ret
      exact ⟨_, rfl, ⟨hown, Hn.out⟩, hbel⟩
theorem rwith_any (s p : Int) (w : World) : Calls Try.prog 23 #[.int .i64 s, .int .i64 p] w fun e w' => e = .returned (.int .i64 (SetM.withN s p : Nat)) ∧ Below w.heap.size w w' := by
  obtain ⟨i0, hi, hz0, hz1, hz2⟩ := info_parts info3
  have hl8 := SetM.list_len s
  have HS := Lib.hid (SetM.of_with s p)
  go_enter Try.func23, Try.ntmps23
  go_wp2_with fail
  refine (rlist_any _ _).mono ?_
  rintro e w1 ⟨v, rfl, ⟨hown, hnil⟩, hbel⟩
  have hB := hbel.size
  clear hnil
  go_wp2_with (at_builtin; refine wpList_append_own _ rfl _ _ 22 rfl w.heap.size 3 i0 (.int .i64 0) 1 8 Try.underlying22 hi hz0 hz1 hz2 rfl (by decide) _ _ _ rfl (hown.alloc _) ⟨w1.heap.size, 0, none⟩ 1 1 [.int .i64 p] rfl rfl ?c1 ?c2 ?c3 ?c4 ?c5 ?_)
  case c1 =>
    intro j u hj
    match j, hj with
    | 0, hj => simp at hj; subst hj; simp [Addr.add]
  case c2 => intro u hu; simp at hu; subst hu; rfl
  case c3 => unfold maxLen; omega
  case c4 => omega
  case c5 => simp; omega
  intro v' w2 hown' hgrow hnil'
  have hbel' : Below w.heap.size w w2 := (hbel.alloc (by omega) _).grown hgrow (by simp; omega) fun j hj => row_blk hown j hj
  obtain ⟨L, hL⟩ : ∃ L, SetM.list s ++ [p] = L := ⟨_, rfl⟩
  have hrow' := list_snoc hown' hnil'
  rw [hL] at HS hrow'
  obtain ⟨a, cap, rfl, hrow⟩ := row_of hrow'
  have Hrow := Lib.hid hrow
  clear hown' hgrow hown hnil' hrow hrow' hL
  go_wp2_with (go_at_call 51; refine (rof_any _ _ L _ Hrow.out).mono ?_; rintro e w' ⟨rfl, rfl⟩)
  go_ret
  exact ⟨ret_int (by rw [HS.out]), hbel'⟩
/-- A number as one from 0 to n - 1. -/
theorem place_any (v n : Int) (w : World) (h : 0 < n) (h' : n ≤ 9223372036854775807) :
    Calls Try.prog 22 #[.int .i64 v, .int .i64 n] w fun e w' => e = .returned (.int .i64 (v % n)) ∧ w = w' := by
  have hm := Int.emod_nonneg v (show n ≠ 0 by omega)
  have hm2 := Int.emod_lt_of_pos v h
  have ht : 0 ≤ v.tmod n ∧ v % n = v.tmod n ∨ v.tmod n < 0 ∧ v % n = v.tmod n + n := by
    have h1 := Int.tmod_eq_emod (a := v) (b := n)
    split at h1 <;> omega
  have hb : -9223372036854775808 ≤ v.tmod n ∧ v.tmod n ≤ 9223372036854775807 := by omega
  obtain ⟨hb1, hb2⟩ := hb
  have hn0 : n ≠ 0 := by omega
  rcases ht with ⟨ht, he⟩ | ⟨ht, he⟩
  · have He := Lib.hid he
    clear he hm hm2
    go_enter Try.func22, Try.ntmps22
    go_wp2
    go_ret
    exact ⟨ret_int (by rw [He.out]), rfl⟩
  · have He := Lib.hid he
    clear he hm hm2
    go_enter Try.func22, Try.ntmps22
    go_wp2
    go_ret
    exact ⟨ret_int (by rw [He.out]), rfl⟩
/-! numbers of a row -/
open Tab in
/-- A row of numbers, at a place; 0 behind the end. -/
def num (L : List Int) (i : Int) (n : Int) : Int := L.getD i.toNat 0 % n
open Tab in
theorem at_any (a : Option Addr) (cap : Nat) (L : List Int) (i : Int) (w : World) (h : IntRow w ⟨a, cap⟩ L) (h0 : 0 ≤ i) :
    Calls Try.prog 54 #[.slice a L.length cap, .int .i64 i] w fun e w' => e = .returned (.int .i64 (L.getD i.toNat 0)) ∧ w = w' := by
  have hl := h.len
  unfold maxLen at hl
  obtain ⟨k, rfl⟩ := Int.eq_ofNat_of_zero_le h0
  by_cases hk : k < L.length
  · have hv := List.getElem?_eq_getElem hk
    generalize hu : L[k] = u at hv
    obtain ⟨x, hx, hc⟩ := IntRow.at h hv
    obtain rfl : a = some x := hx
    have HE : Hid (u = L.getD ((k : Int)).toNat 0) := Lib.hid (by rw [Int.toNat_natCast, List.getD_eq_getElem?_getD, hv]; rfl)
    generalize L.getD ((k : Int)).toNat 0 = r at HE ⊢
    clear hv hu h
    go_enter Try.func54, Try.ntmps54
    go_wp2
    go_ret
    exact ⟨ret_int HE.out, rfl⟩
  · have HE : Hid (0 = L.getD ((k : Int)).toNat 0) := Lib.hid (by rw [Int.toNat_natCast, List.getD_eq_getElem?_getD, List.getElem?_eq_none (by omega)]; rfl)
    generalize L.getD ((k : Int)).toNat 0 = r at HE ⊢
    clear h
    go_enter Try.func54, Try.ntmps54
    go_wp2
    go_ret
    exact ⟨ret_int HE.out, rfl⟩
open Tab in
theorem from_any (a : Option Addr) (cap : Nat) (L : List Int) (i n : Int) (w : World) (h : IntRow w ⟨a, cap⟩ L) (h0 : 0 ≤ i) (hn : 0 < n) (hn' : n ≤ 1000) :
    Calls Try.prog 27 #[.slice a L.length cap, .int .i64 i, .int .i64 n] w fun e w' => e = .returned (.int .i64 (num L i n)) ∧ w = w' := by
  have H := Lib.hid h
  clear h
  go_enter Try.func27, Try.ntmps27
  go_wp2_with fail
  refine (at_any a cap L i w H.out h0).mono ?_
  rintro e w' ⟨rfl, rfl⟩
  have HE : Hid (L.getD i.toNat 0 % n = num L i n) := Lib.hid rfl
  generalize L.getD i.toNat 0 = v at HE ⊢
  go_wp2_with fail
  refine (place_any v n _ hn (by omega)).mono ?_
  rintro e w' ⟨rfl, rfl⟩
  go_wp2
  go_ret
  exact ⟨ret_int HE.out, rfl⟩
theorem num_range (L : List Int) (i n : Int) (hn : 0 < n) : 0 ≤ num L i n ∧ num L i n < n := ⟨Int.emod_nonneg _ (by omega), Int.emod_lt_of_pos _ hn⟩
end RefS
namespace Gath
open Go Go.RowKit
open Tab
section
variable {α : Type} {enc : α → List Value} {size : Nat} {B : Nat} {w w' : World} {e : TypeId} {v : Value} {l : List α}
/-- A slice of its own memory (laid since B) that holds the elements l. -/
def Owns (enc : α → List Value) (size B : Nat) (w : World) (e : TypeId) (v : Value) (l : List α) : Prop := w.ownsRow B e size v l.length (l.flatMap enc)
theorem Owns.nil : Owns enc size B w e (.slice none 0 0) ([] : List α) := World.ownsRow_nil _ _ _ _
theorem Owns.snoc {x : α} {v' : Value} (h : w.ownsRow B e size v' (l.length + 1) (l.flatMap enc ++ enc x)) : Owns enc size B w e v' (l ++ [x]) := by
  unfold Owns
  rw [List.length_append, List.flatMap_append, List.flatMap_cons, List.flatMap_nil, List.append_nil]
  exact h
theorem Owns.below (h : Owns enc size B w e v l) (hb : Below w.heap.size w w') : Owns enc size B w' e v l :=
  World.ownsRow.kept (row := none) h ⟨hb.os, hb.tape, hb.output, hb.size, fun j hj _ => hb.block j hj⟩ (by cases hv : v.ownBlock <;> simp)
theorem Owns.mono {B' : Nat} (h : Owns enc size B w e v l) (hb : B' ≤ B) : Owns enc size B' w e v l := by
  refine ⟨h.1, ?_⟩
  rcases h.2 with hn | ⟨g, cap, cur, rfl, h1, h2⟩
  · exact .inl hn
  · exact .inr ⟨g, cap, cur, rfl, by omega, h2⟩
theorem Owns.blk (h : Owns enc size B w e v l) (j : Nat) (hj : v.ownBlock = some j) : B ≤ j := by
  rcases h.2 with ⟨rfl, _⟩ | ⟨g, cap, cur, rfl, hb, _, _⟩
  · simp [Value.ownBlock] at hj
  · obtain rfl : g = j := by simpa [Value.ownBlock] using hj
    exact hb
theorem flat_at (henc : ∀ x, (enc x).length = size) : ∀ (l : List α) (i : Nat) (x : α), l[i]? = some x → ((l.flatMap enc).drop (i * size)).take size = enc x
  | [], i, x, h => by simp at h
  | y :: l, 0, x, h => by
    obtain rfl : y = x := by simpa using h
    rw [Nat.zero_mul, List.drop_zero, List.flatMap_cons, ← henc y, List.take_left]
  | y :: l, i + 1, x, h => by
    rw [List.flatMap_cons, Nat.add_mul, Nat.one_mul, Nat.add_comm, ← henc y, List.drop_append, List.drop_of_length_le (by omega), List.nil_append, Nat.add_sub_cancel_left, henc y]
    exact flat_at henc l i x (by simpa using h)
/-- What was gathered reads as a row. -/
theorem Owns.row (h : Owns enc size B w e v l) (henc : ∀ x, (enc x).length = size) : ∃ s : Sl, v = s.val l.length ∧ RowOf size enc w s l := by
  rcases h.2 with ⟨rfl, h0⟩ | ⟨g, cap, cur, rfl, h1, h2, h3, h4, h5, h6⟩
  · have : l = [] := List.eq_nil_of_length_eq_zero h0
    subst this
    exact ⟨⟨none, 0⟩, rfl, RowOf.nil w⟩
  · refine ⟨⟨some ⟨g, 0, none⟩, cap⟩, rfl, .inr ⟨_, rfl, h3, h4, fun i x hx j u hu => ?_⟩⟩
    have hi : i < l.length := (List.getElem?_eq_some_iff.1 hx).1
    have hj : j < size := by rw [← henc x]; exact (List.getElem?_eq_some_iff.1 hu).1
    rw [Addr.add_mid, Nat.zero_add, Addr.add_mid, cell_of_row _ _ _ _ _ _ h2]
    have hf := flat_at henc l i x hx
    rw [← h6] at hf
    rw [← hf] at hu
    have hlt : i * size + j < l.length * size := by
      have : (i + 1) * size ≤ l.length * size := Nat.mul_le_mul_right _ hi
      rw [Nat.add_mul, Nat.one_mul] at this
      omega
    rw [List.getElem?_take, if_pos hj, List.getElem?_drop, List.getElem?_take, if_pos hlt, Array.getElem?_toList] at hu
    exact hu
end
end Gath
namespace May
open Go.ChangeShapes Go.WideShapes Go.ChangeAt Go.RowKit
open Tab
def listMay {α : Type} (m : Int) (f : α → Bool) (l : List α) : Bool := decide ((l.length : Int) ≤ m) && l.all f
def tabMay (T : Tab) : Bool :=
  listMay 8 Ph.may T.phases && (listMay 4 groupMay T.groups && (allIn 255 T.conflict && (listMay 16 Det.may T.dets && (listMay 4 Rl.may T.rails && (listMay 4 Bs.may T.buses &&
    (allIn 9999 [T.extend, T.budget, T.start, T.revert, T.least] && (allIn 2 T.flash && allIn 2147483647 [T.window, T.share])))))))
/-- Ints that lie in a block, as a row. -/
theorem ints_in {w : World} {g : Nat} {cs : Array Value} {t : TypeId} {fr : Nat × Nat} (hg : w.heap[g]? = some (.cells cs t fr)) (o n : Nat) (l : List Int) (h : (cs.toList.drop o).take n = l.map I) (hn : l.length = n) (hm : n ≤ maxLen) :
    IntRow w ⟨some ⟨g, o, none⟩, n⟩ l := by
  subst hn
  refine .inr ⟨_, rfl, Nat.le_refl _, hm, fun i v hv j u hu => ?_⟩
  cases j with
  | zero =>
    obtain rfl := Option.some.inj hu
    rw [Nat.mul_one, add_two, Nat.add_zero, Addr.add_mid]
    exact range_of hg o _ _ h i _ (by simp [hv])
  | succ j => cases hu
/-- Phases that lie at a block's head, as a row. -/
theorem phases_in {w : World} {g : Nat} {cs : Array Value} {t : TypeId} {fr : Nat × Nat} {T : Tab} {h : Hd} (hg : w.heap[g]? = some (.cells cs t fr)) (C : CellsOk T h cs) (hn : T.phases.length = 8) :
    RowOf 13 Ph.cells w ⟨some ⟨g, 0, none⟩, 8⟩ T.phases := by
  refine .inr ⟨_, rfl, by rw [hn]; exact Nat.le_refl _, (show 8 ≤ maxLen by decide), fun i v hv j u hu => ?_⟩
  rw [add_two, Addr.add_mid, Nat.zero_add, Nat.mul_comm]
  exact range_of hg (13 * i) 13 _ (C.phase i v hv) j u hu
/-- What a walk over a boxed table holds on to. -/
structure St (w : World) (N : Nat) (cs : Array Value) (h : Hd) (T : Tab) (W : World) : Prop where
  bel : Below w.heap.size w W
  blk : W.heap[N]? = some (.cells cs 32 (0, 0))
  tab : IsTab W h T
  le : w.heap.size ≤ N
theorem St.step {w W W' : World} {N : Nat} {cs : Array Value} {h : Hd} {T : Tab} (k : St w N cs h T W) (hb : Below W.heap.size W W') : St w N cs h T W' :=
  ⟨chain k.bel hb, by rw [hb.block N (Array.getElem?_eq_some_iff.1 k.blk).1]; exact k.blk, k.tab.below hb, k.le⟩
theorem St.cell {w W : World} {N : Nat} {cs : Array Value} {h : Hd} {T : Tab} (k : St w N cs h T W) {o : Nat} {v : Value} (hv : cs[o]? = some v) : W.cell? ⟨N, o, none⟩ = some v := by
  rw [cell_of_row _ _ _ _ _ _ k.blk]; exact hv
theorem St.box {w : World} {cs : Array Value} {h : Hd} {T : Tab} (k : IsTab w h T) : St w w.heap.size cs h T (w.alloc (.cells cs 32)) :=
  ⟨(Below.refl _ _).alloc (Nat.le_refl _) _, heap_alloc_new _ _, k.below ((Below.refl _ _).alloc (Nat.le_refl _) _), Nat.le_refl _⟩
end May
namespace May
open Go.ChangeShapes Go.WideShapes Go.ChangeAt Go.RowKit
open Tab
def GAll (l : List Gr) : Prop := l.all (fun v => groupMay v.data) = true
theorem GAll.step {l : List Gr} {k : Nat} {v : Gr} (h : l[k]? = some v) (hk : GAll (l.take k)) (hv : groupMay v.data = true) : GAll (l.take (k + 1)) := all_step (f := fun v : Gr => groupMay v.data) h hk hv
theorem infoT : (Try.prog.info? 32).map (·.size) = some 131 := by kernel_rfl
end May
namespace Copy
open Go Go.RowKit
open Tab
section
variable {P : Program}
end
/-! ### a list's elements as one row -/
section
variable {α : Type} {n : Nat} {enc : α → List Value}
end
end Copy
namespace Clone
open Go.ChangeShapes Go.WideShapes Go.ChangeAt Go.RowKit
open Tab Copy
open May (chain infoP infoG infoD infoR infoB)
end Clone
namespace Owned
open Go Go.RowKit
open Tab Copy
structure Blk where
  at_ : Nat
  cells : List Value
  type : TypeId
def Own (B : Nat) (w : World) (L : List Blk) : Prop := (L.map Blk.at_).Nodup ∧ ∀ x ∈ L, B ≤ x.at_ ∧ w.heap[x.at_]? = some (.cells x.cells.toArray x.type (0, 0))
variable {B : Nat} {w w' : World} {L M : List Blk} {x : Blk}
theorem Own.nil : Own B w [] := ⟨by simp, fun x h => by simp at h⟩
theorem Own.get (h : Own B w L) (hx : x ∈ L) : w.heap[x.at_]? = some (.cells x.cells.toArray x.type (0, 0)) := (h.2 x hx).2
theorem Own.base (h : Own B w L) (hx : x ∈ L) : B ≤ x.at_ := (h.2 x hx).1
theorem Own.lt (h : Own B w L) (hx : x ∈ L) : x.at_ < w.heap.size := (Array.getElem?_eq_some_iff.1 (h.get hx)).1
theorem Own.step (h : Own B w L) (hb : Below w.heap.size w w') : Own B w' L := ⟨h.1, fun x hx => ⟨h.base hx, by rw [hb.block _ (h.lt hx)]; exact h.get hx⟩⟩
theorem Own.same (h : Own B w L) (hs : w'.heap = w.heap) : Own B w' L := ⟨h.1, fun x hx => ⟨h.base hx, by rw [hs]; exact h.get hx⟩⟩
/-- A new block. -/
theorem Own.add (h : Own B w L) (hb : Below w.heap.size w w') {g : Nat} {cs : List Value} {t : TypeId} (hg : w'.heap[g]? = some (.cells cs.toArray t (0, 0))) (hn : w.heap.size ≤ g) (hB : B ≤ w.heap.size) : Own B w' (⟨g, cs, t⟩ :: L) := by
  refine ⟨List.nodup_cons.2 ⟨fun hm => ?_, h.1⟩, fun y hy => ?_⟩
  · obtain ⟨y, hy, e⟩ := List.mem_map.1 hm
    have := h.lt hy
    have e' : y.at_ = g := e
    omega
  · rcases List.mem_cons.1 hy with rfl | hy
    · exact ⟨Nat.le_trans hB hn, hg⟩
    · exact (h.step hb).2 y hy
/-- The first block is written. -/
theorem Own.write (h : Own B w (x :: L)) {cs : List Value} (hg : w'.heap[x.at_]? = some (.cells cs.toArray x.type (0, 0))) (ho : ∀ j, j ≠ x.at_ → w'.heap[j]? = w.heap[j]?) : Own B w' (⟨x.at_, cs, x.type⟩ :: L) := by
  have hx := (List.nodup_cons.1 h.1).1
  refine ⟨List.nodup_cons.2 ⟨hx, (List.nodup_cons.1 h.1).2⟩, fun y hy => ?_⟩
  rcases List.mem_cons.1 hy with rfl | hy
  · exact ⟨(h.base (x := x) (List.mem_cons_self ..) : B ≤ x.at_), hg⟩
  · have hne : y.at_ ≠ x.at_ := fun e => hx (List.mem_map.2 ⟨y, hy, e⟩)
    exact ⟨h.base (List.mem_cons_of_mem _ hy), by rw [ho _ hne]; exact h.get (List.mem_cons_of_mem _ hy)⟩
theorem Own.cell (h : Own B w L) (hx : x ∈ L) (i : Nat) : w.cell? ⟨x.at_, i, none⟩ = x.cells[i]? := by
  rw [cell_of_row _ _ _ _ _ _ (h.get hx)]; simp
theorem Own.frozen (h : Own B w L) (hx : x ∈ L) (i : Nat) : w.frozen? ⟨x.at_, i, none⟩ = false := frozen_of_row _ _ _ _ _ (h.get hx)
/-- What is below B stays as it is when one's own is written. -/
theorem below_write {a : World} (hb : Below B a w) {g i : Nat} (hg : B ≤ g) (v : Value) : Below B a (w.setCell ⟨g, i, none⟩ v) := hb.setCell (p := ⟨g, i, none⟩) hg v
end Owned
namespace Clone
open Go.ChangeShapes Go.WideShapes Go.ChangeAt Go.RowKit
open Tab Copy Owned
open May (chain infoP infoG infoD infoR infoB infoT)
/-- A group whose rows are blocks of their own. -/
structure NG where
  r0 : List Int
  r1 : List Int
  b0 : Nat
  b1 : Nat
def NG.gr (g : NG) : Gr := ⟨g.r0, g.r1, ⟨some ⟨g.b0, 0, none⟩, g.r0.length⟩, ⟨some ⟨g.b1, 0, none⟩, g.r1.length⟩⟩
def NG.blks (g : NG) : List Blk := [⟨g.b0, g.r0.flatMap (fun n => [I n]), 3⟩, ⟨g.b1, g.r1.flatMap (fun n => [I n]), 3⟩]
abbrev at0 (g n : Nat) : Sl := ⟨some ⟨g, 0, none⟩, n⟩
/-- Where a clone's parts lie. -/
def own (T : Tab) (ns : List NG) (G D R S : Nat) : List Blk :=
  ⟨G, (ns.map NG.gr).flatMap Gr.cells, 92⟩ :: ⟨D, T.dets.flatMap Det.cells, 73⟩ :: ⟨R, T.rails.flatMap Rl.cells, 76⟩ :: ⟨S, T.buses.flatMap Bs.cells, 79⟩ :: ns.flatMap NG.blks
def hd (T : Tab) (G D R S : Nat) : Hd := ⟨at0 G T.groups.length, at0 D T.dets.length, at0 R T.rails.length, at0 S T.buses.length⟩
section
variable {T : Tab} {ns : List NG} {G D R S : Nat}
end
/-! ### a table's cells, with a list moved -/
structure Eights (T : Tab) : Prop where
  p : T.phases.length = 8
  c : T.conflict.length = 8
  f : T.flash.length = 8
theorem Eights.tab {T : Tab} (k : Eights T) (h : Hd) (w : World) : CellsOk T h (T.cells h).toArray := by
  have h0 : IsTab w ⟨⟨none, 0⟩, ⟨none, 0⟩, ⟨none, 0⟩, ⟨none, 0⟩⟩ { T with groups := [], dets := [], rails := [], buses := [] } :=
    ⟨k.p, k.c, k.f, ⟨[], rfl, RowOf.nil w, fun g hg => by simp at hg⟩, RowOf.nil w, RowOf.nil w, RowOf.nil w⟩
  have := cells_ok h0
  obtain ⟨p0, p1, p2, p3, p4, p5, p6, p7, hp⟩ := eight k.p
  obtain ⟨c0, c1, c2, c3, c4, c5, c6, c7, hc⟩ := eight k.c
  obtain ⟨f0, f1, f2, f3, f4, f5, f6, f7, hf⟩ := eight k.f
  clear k
  obtain ⟨phases, groups, conflict, dets, rails, buses, extend, budget, start, revert, least, flash, window, share⟩ := T
  simp only at hp hc hf
  subst hp hc hf
  clear this h0
  constructor
  all_goals try rfl
  case one => simp [Tab.cells, Ph.cells, Value.oneCell']
  intro i p hp
  match i, hp with
  | 0, hp | 1, hp | 2, hp | 3, hp | 4, hp | 5, hp | 6, hp | 7, hp =>
    obtain rfl := Option.some.inj hp
    rfl
  | i + 8, hp => cases hp
/-- The zero table. -/
def zPh : Ph := ⟨false, 0, 0, 0, 0, 0, 0, 0, 0, 0, 0, false, false⟩
def zTab : Tab := ⟨List.replicate 8 zPh, [], List.replicate 8 0, [], [], [], 0, 0, 0, 0, 0, List.replicate 8 0, 0, 0⟩
def zHd : Hd := ⟨⟨none, 0⟩, ⟨none, 0⟩, ⟨none, 0⟩, ⟨none, 0⟩⟩
end Clone
namespace Clone
open Go.ChangeShapes Go.WideShapes Go.ChangeAt Go.RowKit
open Tab Copy Owned
open May (chain infoP infoG infoD infoR infoB infoT take_succ')
/-- The phases of the region that fills one group. -/
def D5 (w : World) (B M : Nat) (L0 L1 L2 L3 : List Blk) (q : Nat) (w' : World) : Prop :=
  Below B w w' ∧ match q with
    | 0 => Owned.Own B w' L0 ∧ w'.heap.size = M + 1
    | 1 => Owned.Own B w' L1 ∧ w'.heap.size = M + 1 + 1
    | 2 => Owned.Own B w' L2 ∧ w'.heap.size = M + 1 + 1 + 1
    | _ => Owned.Own B w' L3
theorem D5.get {w w' : World} {B M q : Nat} {L0 L1 L2 L3 : List Blk} {x : Blk} (h : D5 w B M L0 L1 L2 L3 q w') (h0 : x ∈ L0) (h1 : x ∈ L1) (h2 : x ∈ L2) (h3 : x ∈ L3) : w'.heap[x.at_]? = some (.cells x.cells.toArray x.type (0, 0)) := by
  match q, h with
  | 0, ⟨_, h, _⟩ => exact h.get h0
  | 1, ⟨_, h, _⟩ => exact h.get h1
  | 2, ⟨_, h, _⟩ => exact h.get h2
  | _ + 3, ⟨_, h⟩ => exact h.get h3
end Clone
namespace OnS
open Go.ChangeShapes Go.WideShapes Go.ChangeAt Go.RowKit
open Tab Gath RefS
open May (St phases_in infoP)
/-- A row, as set.Of's contract wants it. -/
theorem row_of_int {w : World} {a : Option Addr} {cap : Nat} {L : List Int} (h : IntRow w ⟨a, cap⟩ L) : RefS.Row w a L := by
  have hl := h.len
  refine ⟨by omega, ?_⟩
  by_cases h0 : L = []
  · exact .inl h0
  · have hp : 0 < L.length := List.length_pos_iff.2 h0
    obtain ⟨x, hx, _⟩ := IntRow.at h (List.getElem?_eq_getElem hp)
    refine .inr ⟨x, hx, fun i hi => ?_⟩
    obtain ⟨y, hy, hc⟩ := IntRow.at h (List.getElem?_eq_getElem hi)
    obtain rfl : x = y := Option.some.inj (hx.symm.trans hy)
    rw [hc, List.getD_eq_getElem?_getD, List.getElem?_eq_getElem hi]
    rfl
def onTo : Nat → List Ph → List Int
  | _, [] => []
  | i, p :: l => (if p.on then [(i : Int)] else []) ++ onTo (i + 1) l
theorem onTo_append : ∀ (i : Nat) (l m : List Ph), onTo i (l ++ m) = onTo i l ++ onTo (i + l.length) m
  | i, [], m => rfl
  | i, p :: l, m => by
    rw [List.cons_append, onTo, onTo, onTo_append (i + 1) l m, List.append_assoc, List.length_cons, show i + 1 + l.length = i + (l.length + 1) by omega]
theorem on_step {l : List Ph} {q : Nat} {p : Ph} (h : l[q]? = some p) : onTo 0 (l.take (q + 1)) = onTo 0 (l.take q) ++ (if p.on then [(q : Int)] else []) := by
  have hi : q < l.length := (List.getElem?_eq_some_iff.1 h).1
  rw [PlaceM.take_succ h, onTo_append, List.length_take, Nat.min_eq_left (by omega), Nat.zero_add]
  simp [onTo]
theorem on_len : ∀ (i : Nat) (l : List Ph), (onTo i l).length ≤ l.length
  | i, [] => Nat.le_refl _
  | i, p :: l => by
    rw [onTo, List.length_append, List.length_cons]
    have := on_len (i + 1) l
    split <;> simp <;> omega
/-- The phases that are On, and their set. -/
def onL (T : Tab) : List Int := onTo 0 T.phases
def onS (T : Tab) : Nat := SetM.of (onL T)
abbrev OwnsI (B : Nat) (w : World) (v : Value) (l : List Int) : Prop := Owns (fun n => [I n]) 1 B w 3 v l
theorem on_any (T : Tab) (h : Hd) (w : World) (ht : IsTab w h T) :
    Calls Try.prog 21 #[.agg (T.cells h).toArray] w fun e w' => e = .returned (.int .i64 (onS T : Nat)) ∧ Below w.heap.size w w' := by
  have C := Lib.hid (cells_ok ht)
  generalize (T.cells h).toArray = cs at C ⊢
  have hsz := C.out.size
  have L8 := Lib.hid ht.ph
  have S0 := Lib.hid (St.box (cs := cs) ht)
  obtain ⟨i0, hi, hz0, hz1, hz2⟩ := info_parts info3
  have RS : Hid ((onS T : Nat) = SetM.of (onTo 0 T.phases)) := Lib.hid rfl
  generalize onS T = r at RS ⊢
  clear ht
  go_enter Try.func21, Try.ntmps21
  go_upto_region 1 with fail
  generalize w.alloc (.cells cs 32) = w1 at S0 ⊢
  clear hsz
  go_wp2_with fail
  go_loopw [3, 4] (fun v g wr => ∃ q : Nat, q ≤ 8 ∧ g = .int .i64 q ∧ OwnsI w1.heap.size wr v (onTo 0 (T.phases.take q)) ∧ Below w1.heap.size w1 wr) (fun _ g _ => 8 - (intOf g).toNat)
  case atStart => exact ⟨0, by omega, rfl, Owns.nil, Below.refl _ _⟩
  case round =>
    obtain ⟨q, hq, rfl, hown, hbel⟩ := hrel
    have HO := Lib.hid hown
    have HB := Lib.hid hbel
    clear hown hbel
    have S1 := Lib.hid (S0.out.step HB.out)
    by_cases hlt : q < 8
    · have hv : T.phases[q]? = some (T.phases[q]'(by rw [L8.out]; exact hlt)) := List.getElem?_eq_getElem _
      generalize T.phases[q]'(by rw [L8.out]; exact hlt) = u at hv
      obtain ⟨x, hx, hc⟩ := (phases_in S1.out.blk C.out L8.out).at hv
      obtain rfl := Option.some.inj hx
      have c0 : wr.cell? ⟨w.heap.size, q * 13, none⟩ = some (.bool u.on) := by
        have := hc 0 _ rfl
        rwa [Addr.add_mid, Nat.zero_add, Tab.add_zero] at this
      have HS := Lib.hid (on_step hv)
      have hlen : (onTo 0 (T.phases.take q)).length ≤ 8 := by have := on_len 0 (T.phases.take q); rw [List.length_take] at this; omega
      have hsz := HB.out.size
      clear hv hc hx
      generalize onTo 0 (T.phases.take q) = P1 at HO HS hlen
      cases hon : u.on
      · rw [hon] at c0 HS
        have HS2 : Hid (onTo 0 (T.phases.take (q + 1)) = P1) := Lib.hid (by rw [HS.out]; simp)
        go_wp2
        go_roundw
        case rel => exact ⟨q + 1, by omega, by go_num, by rw [HS2.out]; exact HO.out, HB.out⟩
        case measure => simp [intOf]; omega
      · rw [hon] at c0 HS
        have HS2 : Hid (onTo 0 (T.phases.take (q + 1)) = P1 ++ [(q : Int)]) := Lib.hid (by rw [HS.out]; simp)
        have hown2 : wr.ownsRow w1.heap.size 3 1 u3 P1.length (P1.flatMap (fun n => [I n])) := HO.out
        clear HO
        go_wp2_with (at_builtin; refine wpList_append_own _ rfl _ _ 22 rfl w1.heap.size 3 i0 (.int .i64 0) 1 8 Try.underlying22 hi hz0 hz1 hz2 rfl (by decide) _ _ _ rfl (hown2.alloc _) ⟨wr.heap.size, 0, none⟩ 1 1 [.int .i64 (q : Int)] rfl rfl ?c1 ?c2 ?c3 ?c4 ?c5 ?_)
        case c2 => rfl
        case c3 => unfold maxLen; omega
        case c4 => omega
        case c5 => omega
        intro v' w2 hown' hgrow hnil'
        have HB2 : Hid (Below w1.heap.size w1 w2) := Lib.hid ((HB.out.alloc hsz _).grown hgrow (by simp; omega) fun m hm => (show OwnsI w1.heap.size wr u3 P1 from hown2).blk m hm)
        have HO2 : Hid (OwnsI w1.heap.size w2 v' (P1 ++ [(q : Int)])) := Lib.hid (Owns.snoc hown')
        clear hown' hgrow hown2 hnil'
        go_wp2
        go_roundw
        case rel => exact ⟨q + 1, by omega, by go_num, by rw [HS2.out]; exact HO2.out, HB2.out⟩
        case measure => simp [intOf]; omega
    · have HE : Hid (onTo 0 (T.phases.take q) = onTo 0 T.phases) := Lib.hid (by rw [List.take_of_length_le (by rw [L8.out]; omega)])
      obtain ⟨⟨sa, sc⟩, hs, hrow⟩ := HO.out.row (enc := fun n => [I n]) (fun _ => rfl)
      rw [HE.out] at hs hrow
      have HR := Lib.hid (row_of_int hrow)
      have HF : Hid (Below w.heap.size w wr) := Lib.hid (S1.out.bel)
      clear hrow HE
      subst hs
      generalize onTo 0 T.phases = P2 at RS HR ⊢
      show Code.wp _ _ _ _ _
      rw [show (Sl.val ⟨sa, sc⟩ P2.length) = .slice sa P2.length sc from rfl]
      go_wp2_with fail
      refine (rof_any sa sc P2 _ HR.out).mono ?_
      rintro e w' ⟨rfl, rfl⟩
      rw [← RS.out]
      go_wp2
      go_ret
      exact ⟨rfl, HF.out⟩
end OnS
namespace ChkM
open Go Tab PlaceM PlanM OnS May
def cfAt (T : Tab) (p : Int) : Int := T.conflict.getD p.toNat 0
def flAt (T : Tab) (p : Int) : Int := T.flash.getD p.toNat 0
def allOn (T : Tab) (s : Int) : Bool := bits .andNot .i64 s (onS T : Nat) == 0
/-! ### rule 3 -/
/-- Where package plan finds a number. -/
def at0 (o : Option Spt) : Nat × Nat × Nat := match o with | some x => (x.g, x.k, x.i) | none => (0, 0, 0)
def repRow (T : Tab) (g k : Nat) (l : List Int) : Bool := (List.range l.length).any fun i => at0 (where_ T (l.getD i 0)) != (g, k, i)
def repeats (T : Tab) (g : Nat) : Bool := repRow T g 0 (rowsAt T g).1 || repRow T g 1 (rowsAt T g).2
/-! ### all rules -/
end ChkM
namespace Phx
open Go.ChangeShapes Go.WideShapes Go.ChangeAt Go.RowKit
open Tab
open May (infoP)
theorem flat_take : ∀ {l : List Ph} {q : Nat} {u : Ph}, l[q]? = some u → ((l.flatMap Ph.cells).drop (q * 13)).take 13 = u.cells
  | [], q, u, h => by simp at h
  | p :: l, 0, u, h => by
    obtain rfl : p = u := by simpa using h
    rw [Nat.zero_mul, List.drop_zero, List.flatMap_cons]
    exact List.take_left' rfl
  | p :: l, q + 1, u, h => by
    rw [List.flatMap_cons, Nat.add_mul, Nat.one_mul, Nat.add_comm, List.drop_append, List.drop_of_length_le (by simp [Ph.cells]), List.nil_append, show 13 + q * 13 - p.cells.length = q * 13 by simp [Ph.cells]]
    exact flat_take (by simpa using h)
end Phx
namespace RefC
open Go.ChangeShapes Go.WideShapes Go.ChangeAt Go.RowKit
def cap (n : Int) : Int := if n < 0 then 0 else if 2147483647 < n then 2147483647 else n
theorem cap_lo (n : Int) : 0 ≤ cap n := by unfold cap; split <;> (try split) <;> omega
theorem cap_hi (n : Int) : cap n ≤ 2147483647 := by unfold cap; split <;> (try split) <;> omega
theorem cap_neg {n : Int} (h : n < 0) : cap n = 0 := by unfold cap; rw [if_pos h]
theorem cap_big {n : Int} (h : 2147483647 < n) : cap n = 2147483647 := by unfold cap; rw [if_neg (by omega), if_pos h]
theorem cap_in {n : Int} (h : 0 ≤ n) (h' : n ≤ 2147483647) : cap n = n := by unfold cap; rw [if_neg (by omega), if_neg (by omega)]
theorem mul_bd {a b : Int} (ha : 0 ≤ a) (ha' : a ≤ 2147483647) (hb : 0 ≤ b) (hb' : b ≤ 2147483647) : 0 ≤ a * b ∧ a * b ≤ 2147483647 * 2147483647 := by
  refine ⟨Int.mul_nonneg ha hb, ?_⟩
  exact Int.mul_le_mul ha' hb' hb (by omega)
theorem ret_int {k : IntKind} {a b : Int} (h : a = b) : Ending.returned (.int k a) = .returned (.int k b) := by rw [h]
def add (a b : Int) : Int := cap (cap a + cap b)
def mul (a b : Int) : Int := cap (cap a * cap b)
theorem cut_cap (n : Int) (w : World) : Calls Try.prog 82 #[.int .i64 n, .int .i64 0, .int .i64 2147483647] w fun e w' => e = .returned (.int .i64 (cap n)) ∧ w = w' := by
  by_cases h1 : n < 0
  · go_enter Try.func82, Try.ntmps82
    go_wp2
    go_ret
    exact ⟨ret_int (cap_neg h1).symm, rfl⟩
  by_cases h2 : 2147483647 < n
  · go_enter Try.func82, Try.ntmps82
    go_wp2
    go_ret
    exact ⟨ret_int (cap_big h2).symm, rfl⟩
  · go_enter Try.func82, Try.ntmps82
    go_wp2
    go_ret
    exact ⟨ret_int (cap_in (by omega) (by omega)).symm, rfl⟩
theorem rcap_any (n : Int) (w : World) : Calls Try.prog 74 #[.int .i64 n] w fun e w' => e = .returned (.int .i64 (cap n)) ∧ w = w' := by
  go_enter Try.func74, Try.ntmps74
  go_wp2_with (go_at_call 82; refine (cut_cap _ _).mono ?_; rintro e w' ⟨rfl, rfl⟩)
  go_ret
  exact ⟨rfl, rfl⟩
theorem radd_any (a b : Int) (w : World) : Calls Try.prog 87 #[.int .i64 a, .int .i64 b] w fun e w' => e = .returned (.int .i64 (add a b)) ∧ w = w' := by
  have b1 := cap_lo a
  have b2 := cap_hi a
  have b3 := cap_lo b
  have b4 := cap_hi b
  go_enter Try.func87, Try.ntmps87
  go_wp2_with (go_at_call 74; refine (rcap_any _ _).mono ?_; rintro e w' ⟨rfl, rfl⟩)
  go_ret
  exact ⟨rfl, rfl⟩
theorem rmul_any (a b : Int) (w : World) : Calls Try.prog 56 #[.int .i64 a, .int .i64 b] w fun e w' => e = .returned (.int .i64 (mul a b)) ∧ w = w' := by
  have b1 := cap_lo a
  have b2 := cap_hi a
  have b3 := cap_lo b
  have b4 := cap_hi b
  obtain ⟨c1, c2⟩ := mul_bd b1 b2 b3 b4
  go_enter Try.func56, Try.ntmps56
  go_wp2_with (go_at_call 74; refine (rcap_any _ _).mono ?_; rintro e w' ⟨rfl, rfl⟩)
  go_ret
  exact ⟨rfl, rfl⟩
/-- A slice of integers as a list: nil, or a row of cells. -/
def IsRow (w : World) (a : Option Addr) (len : Nat) (zs : List Int) : Prop :=
  len ≤ zs.length ∧ len ≤ maxLen ∧ (len = 0 ∨ ∃ x, a = some x ∧ ∀ i, i < zs.length → w.cell? (x.add i) = some (.int .i64 (zs.getD i 0)))
def sums (l : List Int) : Int := l.foldl add 0
theorem sums_snoc (l : List Int) (x : Int) : sums (l ++ [x]) = add (sums l) x := by unfold sums; rw [List.foldl_append]; rfl
theorem take_succ_getD (zs : List Int) (k : Nat) (h : k < zs.length) : zs.take (k + 1) = zs.take k ++ [zs.getD k 0] := by
  rw [List.take_succ_eq_append_getElem h, List.getD_eq_getElem?_getD, List.getElem?_eq_getElem h]; rfl
theorem sums_take (zs : List Int) (k : Nat) (h : k < zs.length) : sums (zs.take (k + 1)) = add (sums (zs.take k)) (zs.getD k 0) := by
  rw [take_succ_getD zs k h, sums_snoc]
theorem rsum_any (a : Option Addr) (len cap : Nat) (zs : List Int) (w : World) (h : IsRow w a len zs) :
    Calls Try.prog 73 #[.slice a len cap] w fun e w' => e = .returned (.int .i64 (sums (zs.take len))) ∧ w = w' := by
  obtain ⟨h1, h2, h3⟩ := h
  unfold maxLen at h2
  go_enter Try.func73, Try.ntmps73
  go_wp2
  go_loop [3, 4] (fun t i => ∃ k : Nat, k ≤ len ∧ i = .int .i64 k ∧ t = .int .i64 (sums (zs.take k))) (fun _ i => len - (intOf i).toNat)
  case atStart => exact ⟨0, Nat.zero_le _, rfl, rfl⟩
  case round =>
    obtain ⟨k, hk, rfl, rfl⟩ := hrel
    by_cases hlt : k < len
    · have HS := Lib.hid (sums_take zs k (by omega))
      obtain ⟨x, rfl, hc⟩ : ∃ x, a = some x ∧ ∀ i, i < zs.length → w.cell? (x.add i) = some (.int .i64 (zs.getD i 0)) := by
        rcases h3 with h3 | h3
        · omega
        · exact h3
      have hcell := hc k (by omega)
      clear hc h3
      go_wp2_with (go_at_call 87; refine (radd_any _ _ _).mono ?_; rintro e w' ⟨rfl, rfl⟩)
      go_round
      case rel => exact ⟨k + 1, by omega, by go_num, by rw [HS.out, List.getD_eq_getElem?_getD]⟩
      case measure => simp [intOf]; omega
    · go_wp2
      go_ret
      have : k = len := by omega
      subst this
      exact ⟨rfl, rfl⟩
open Tab in
theorem is_row {w : World} {a : Option Addr} {cap : Nat} {L : List Int} (h : IntRow w ⟨a, cap⟩ L) : IsRow w a L.length L := by
  have hl := h.len
  refine ⟨Nat.le_refl _, by omega, ?_⟩
  by_cases h0 : L.length = 0
  · exact .inl h0
  · have h1 : L[0]? = some L[0] := List.getElem?_eq_getElem (by omega)
    obtain ⟨x, hx, _⟩ := IntRow.at h h1
    refine .inr ⟨x, hx, fun i hi => ?_⟩
    obtain ⟨y, hy, hc⟩ := IntRow.at h (List.getElem?_eq_getElem hi)
    obtain rfl : x = y := Option.some.inj (hx.symm.trans hy)
    rw [hc, List.getD_eq_getElem?_getD, List.getElem?_eq_getElem hi]
    rfl
open Tab in
theorem rsum_row (a : Option Addr) (cap : Nat) (L : List Int) (w : World) (h : IntRow w ⟨a, cap⟩ L) :
    Calls Try.prog 73 #[.slice a L.length cap] w fun e w' => e = .returned (.int .i64 (sums L)) ∧ w = w' := by
  have := rsum_any a L.length cap L w (is_row h)
  rwa [List.take_length] at this
open Tab in
theorem sum_row (a : Option Addr) (cap : Nat) (L : List Int) (w : World) (h : IntRow w ⟨a, cap⟩ L) :
    Calls Try.prog 53 #[.slice a L.length cap] w fun e w' => e = .returned (.int .i64 (sums L)) ∧ w = w' := by
  have H := Lib.hid (rsum_row a cap L w h)
  clear h
  generalize sums L = s at H ⊢
  go_enter Try.func53, Try.ntmps53
  go_wp2_with fail
  refine H.out.mono ?_
  rintro e w' ⟨rfl, rfl⟩
  go_wp2
  go_ret
  exact ⟨rfl, rfl⟩
/-- The greatest, 0 of none. -/
def mosts (l : List Int) : Int := l.foldl max 0
theorem mosts_take (l : List Int) (k : Nat) (h : k < l.length) : mosts (l.take (k + 1)) = max (mosts (l.take k)) (l.getD k 0) := by
  rw [take_succ_getD l k h]; unfold mosts; rw [List.foldl_append]; rfl
open Tab in
theorem most_row (a : Option Addr) (cap : Nat) (L : List Int) (w : World) (h : IntRow w ⟨a, cap⟩ L) :
    Calls Try.prog 76 #[.slice a L.length cap] w fun e w' => e = .returned (.int .i64 (mosts L)) ∧ w = w' := by
  obtain ⟨h1, h2, h3⟩ := is_row h
  unfold maxLen at h2
  clear h
  go_enter Try.func76, Try.ntmps76
  go_wp2
  go_loop [3, 4] (fun t i => ∃ k : Nat, k ≤ L.length ∧ i = .int .i64 k ∧ t = .int .i64 (mosts (L.take k))) (fun _ i => L.length - (intOf i).toNat)
  case atStart => exact ⟨0, Nat.zero_le _, rfl, rfl⟩
  case round =>
    obtain ⟨k, hk, rfl, rfl⟩ := hrel
    by_cases hlt : k < L.length
    · have HS := Lib.hid (mosts_take L k (by omega))
      obtain ⟨x, rfl, hc⟩ : ∃ x, a = some x ∧ ∀ i, i < L.length → w.cell? (x.add i) = some (.int .i64 (L.getD i 0)) := by
        rcases h3 with h3 | h3
        · omega
        · exact h3
      have hcell := hc k (by omega)
      clear hc h3
      generalize L.getD k 0 = v at HS hcell
      generalize mosts (L.take k) = m at HS ⊢
      by_cases hmv : m < v
      · have HM : Hid (max m v = v) := Lib.hid (by omega)
        go_wp2
        go_round
        case rel => exact ⟨k + 1, by omega, by go_num, by rw [HS.out]; first | rw [HM.out] | rfl⟩
        case measure => simp [intOf]; omega
      · have HM : Hid (max m v = m) := Lib.hid (by omega)
        go_wp2
        go_round
        case rel => exact ⟨k + 1, by omega, by go_num, by rw [HS.out]; first | rw [HM.out] | rfl⟩
        case measure => simp [intOf]; omega
    · go_wp2
      go_ret
      have : k = L.length := by omega
      subst this
      exact ⟨by rw [List.take_length]; rfl, rfl⟩
end RefC
namespace Clear
open Go.ChangeShapes Go.WideShapes Go.ChangeAt Go.RowKit
open Tab Gath RefS OnS RefC
open May (St phases_in infoP infoT row_new)
def phAt (T : Tab) (p : Int) : Ph := T.phases.getD p.toNat default
def clr (T : Tab) (p : Int) : Int := sums [(phAt T p).yellow, (phAt T p).red]
def clearS (T : Tab) : Int := mosts ((SetM.list (onS T : Nat)).map (clr T))
theorem sum_len (a : Option Addr) (cap : Nat) (L : List Int) (n : Nat) (hn : L.length = n) (w : World) (h : IntRow w ⟨a, cap⟩ L) :
    Calls Try.prog 53 #[.slice a n cap] w fun e w' => e = .returned (.int .i64 (sums L)) ∧ w = w' := by
  subst hn; exact sum_row a cap L w h
theorem clear_any (T : Tab) (h : Hd) (w : World) (ht : IsTab w h T) :
    Calls Try.prog 77 #[.agg (T.cells h).toArray] w fun e w' => e = .returned (.int .i64 (clearS T)) ∧ Below w.heap.size w w' := by
  have C := Lib.hid (cells_ok ht)
  have hsz := C.out.size
  have IA : Hid ((Try.prog.info? 32).map (·.size) = some (T.cells h).length) := Lib.hid (by rw [List.size_toArray] at hsz; rw [hsz]; exact infoT)
  have ON : Hid (∀ W, Below w.heap.size w W → Calls Try.prog 21 #[.agg (T.cells h).toArray] W fun e w' => e = .returned (.int .i64 (onS T : Nat)) ∧ Below W.heap.size W w') := Lib.hid (fun W hb => on_any T h W (ht.below hb))
  have L8 := Lib.hid ht.ph
  have S0 := Lib.hid (St.box (cs := (T.cells h).toArray) ht)
  have RS : Hid (clearS T = mosts ((SetM.list (onS T : Nat)).map (clr T))) := Lib.hid rfl
  generalize clearS T = r at RS ⊢
  generalize ((onS T : Nat) : Int) = os at RS ON
  obtain ⟨i0, hi, hz0, hz1, hz2⟩ := info_parts info3
  clear ht
  generalize T.cells h = c at *
  go_enter Try.func77, Try.ntmps77
  go_upto_region 1 with fail
  generalize w.alloc (.cells c.toArray 32) = w1 at S0 ⊢
  clear hsz
  have LT : Hid (Lies w1 ⟨w.heap.size, 0, none⟩ c) := Lib.hid (by have := Row.lies_of_block S0.out.blk; simpa using this)
  go_wp2_with (refine Row.wpList_load_g 32 _ rfl (by first | rfl | go_simp) ⟨w.heap.size, 0, none⟩ rfl c _ LT.out Try.underlying32 rfl IA.out ?_)
  refine (ON.out _ S0.out.bel).mono ?_
  rintro e w2 ⟨rfl, hb⟩
  have S2 := Lib.hid (S0.out.step hb)
  clear hb S0 LT ON IA
  go_wp2_with fail
  refine (rlist_any os _).mono ?_
  rintro e w3 ⟨v0, rfl, hown, hb⟩
  have S3 := Lib.hid (S2.out.step hb)
  obtain ⟨sa, sc, rfl, hrow⟩ := row_of hown
  have HR := Lib.hid hrow
  have hl8 := SetM.list_len os
  have BD := Lib.hid (SetM.list_bd os)
  clear hown hrow hb S2
  generalize SetM.list os = M at RS HR hl8 BD ⊢
  go_wp2_with fail
  go_loopw [3, 10] (fun v i wr => ∃ q : Nat, q ≤ M.length ∧ i = .int .i64 q ∧ OwnsI w3.heap.size wr v ((M.take q).map (clr T)) ∧ Below w3.heap.size w3 wr) (fun _ i _ => M.length - (intOf i).toNat)
  case atStart => exact ⟨0, by omega, rfl, Owns.nil, Below.refl _ _⟩
  case round =>
    obtain ⟨q, hq, rfl, hown, hbel⟩ := hrel
    have HO := Lib.hid hown
    have HB := Lib.hid hbel
    clear hown hbel
    by_cases hlt : q < M.length
    · obtain ⟨x, hx, hc⟩ := (HR.out.below HB.out).cells hlt
      obtain rfl : sa = some x := hx
      have c0 := hc q hlt
      have hmem : M.getD q 0 ∈ M := by rw [List.getD_eq_getElem?_getD, List.getElem?_eq_getElem hlt]; exact List.getElem_mem hlt
      have hbd := BD.out _ hmem
      have MS : Hid ((M.take (q + 1)).map (clr T) = (M.take q).map (clr T) ++ [clr T (M.getD q 0)]) := Lib.hid (by rw [RefS.take_succ M q hlt, List.map_append]; rfl)
      clear hc hmem
      generalize M.getD q 0 = p at c0 hbd MS
      obtain ⟨p0, p8⟩ := hbd
      obtain ⟨k, rfl⟩ := Int.eq_ofNat_of_zero_le p0
      have hk : k < 8 := by omega
      have hv : T.phases[k]? = some (phAt T k) := by
        unfold phAt
        rw [Int.toNat_natCast, List.getD_eq_getElem?_getD, List.getElem?_eq_getElem (by rw [L8.out]; exact hk)]; rfl
      have CL : Hid (clr T k = sums [(phAt T k).yellow, (phAt T k).red]) := Lib.hid rfl
      generalize phAt T k = u at hv CL
      obtain ⟨y, hy, hcc⟩ := (phases_in (S3.out.step HB.out).blk C.out L8.out).at hv
      obtain rfl := Option.some.inj hy
      have d6 : wr.cell? ⟨w.heap.size, k * 13 + 6, none⟩ = some (I u.yellow) := by have := hcc 6 _ rfl; rwa [Addr.add_mid, Nat.zero_add, Addr.add_mid] at this
      have d7 : wr.cell? ⟨w.heap.size, k * 13 + 7, none⟩ = some (I u.red) := by have := hcc 7 _ rfl; rwa [Addr.add_mid, Nat.zero_add, Addr.add_mid] at this
      have hl3 : w.heap.size < w3.heap.size := (Array.getElem?_eq_some_iff.1 S3.out.blk).1
      have CY : Hid (∀ w', Below w3.heap.size wr w' → w'.cell? ⟨w.heap.size, k * 13 + 6, none⟩ = some (I u.yellow)) := Lib.hid (fun w' hb => (hb.cell (show w.heap.size < _ from hl3)).trans d6)
      have CR : Hid (∀ w', Below w3.heap.size wr w' → w'.cell? ⟨w.heap.size, k * 13 + 7, none⟩ = some (I u.red)) := Lib.hid (fun w' hb => (hb.cell (show w.heap.size < _ from hl3)).trans d7)
      clear hv hcc hy d6 d7
      have hwr := HB.out.size
      have hlen : ((M.take q).map (clr T)).length ≤ 8 := by rw [List.length_map, List.length_take]; omega
      go_upto_region 5 with fail
      refine wp_region_held (S := fun w' => Below w3.heap.size wr w') (by kernel_rfl) ?_
      have hO : OwnsI w3.heap.size { wr with drawn := wr.drawn + 1 } u3 ((M.take q).map (clr T)) := HO.out
      have hS : Below w3.heap.size wr { wr with drawn := wr.drawn + 1 } := (Below.refl _ _).drew
      have hv3 : w3.heap.size ≤ ({ wr with drawn := wr.drawn + 1 } : World).heap.size := hwr
      generalize ({ wr with drawn := wr.drawn + 1 } : World) = v at hS hO hv3 ⊢
      generalize (M.take q).map (clr T) = P1 at hO hlen MS HO
      refine Held.take (i := 0) (some 14) rfl (v := ?_) rfl (by kernel_rfl) (by kernel_rfl) (by kernel_rfl) (fun _ _ _ h => h) (Or.inl ⟨by rfl, ?_⟩) hS ?_
      rotate_left
      · intro w' hw'
        have c6 := CY.out w' hw'
        have c7 := CR.out w' hw'
        go_simp
        try with_reducible rfl
      (try dsimp only [Act.put]); (try simp only [List.setIfInBounds_toArray, List.set_cons_zero, List.set_cons_succ])
      refine Held.take (i := 1) (some 15) rfl (v := ?_) rfl (by kernel_rfl) (by kernel_rfl) (by kernel_rfl) (fun _ _ _ h => h) (Or.inl ⟨by rfl, ?_⟩) hS ?_
      rotate_left
      · intro w' hw'
        have c6 := CY.out w' hw'
        have c7 := CR.out w' hw'
        go_simp
        try with_reducible rfl
      (try dsimp only [Act.put]); (try simp only [List.setIfInBounds_toArray, List.set_cons_zero, List.set_cons_succ])
      refine Held.take (i := 2) (some 16) rfl (v := ?_) rfl (by kernel_rfl) (by kernel_rfl) (by kernel_rfl) (fun _ _ _ h => h) (Or.inl ⟨by rfl, ?_⟩) hS ?_
      rotate_left
      · intro w' hw'
        have c6 := CY.out w' hw'
        have c7 := CR.out w' hw'
        go_simp
        try with_reducible rfl
      (try dsimp only [Act.put]); (try simp only [List.setIfInBounds_toArray, List.set_cons_zero, List.set_cons_succ])
      refine Held.take (i := 3) (some 17) rfl (v := ?_) rfl (by kernel_rfl) (by kernel_rfl) (by kernel_rfl) (fun _ _ _ h => h) (Or.inl ⟨by rfl, ?_⟩) hS ?_
      rotate_left
      · intro w' hw'
        have c6 := CY.out w' hw'
        have c7 := CR.out w' hw'
        go_simp
        try with_reducible rfl
      (try dsimp only [Act.put]); (try simp only [List.setIfInBounds_toArray, List.set_cons_zero, List.set_cons_succ])
      refine Held.take (i := 4) (some 18) rfl (v := ?_) rfl (by kernel_rfl) (by kernel_rfl) (by kernel_rfl) (fun _ _ _ h => h) (Or.inl ⟨by rfl, ?_⟩) hS ?_
      rotate_left
      · intro w' hw'
        have c6 := CY.out w' hw'
        have c7 := CR.out w' hw'
        go_simp
        try with_reducible rfl
      (try dsimp only [Act.put]); (try simp only [List.setIfInBounds_toArray, List.set_cons_zero, List.set_cons_succ])
      refine Held.take (i := 5) (some 19) rfl (v := ?_) rfl (by kernel_rfl) (by kernel_rfl) (by kernel_rfl) (fun _ _ _ h => h) (Or.inl ⟨by rfl, ?_⟩) hS ?_
      rotate_left
      · intro w' hw'
        have c6 := CY.out w' hw'
        have c7 := CR.out w' hw'
        go_simp
        try with_reducible rfl
      (try dsimp only [Act.put]); (try simp only [List.setIfInBounds_toArray, List.set_cons_zero, List.set_cons_succ])
      refine Held.take (i := 6) (some 20) rfl (v := ?_) rfl (by kernel_rfl) (by kernel_rfl) (by kernel_rfl) (fun _ _ _ h => h) (Or.inl ⟨by rfl, ?_⟩) hS ?_
      rotate_left
      · intro w' hw'
        have c6 := CY.out w' hw'
        have c7 := CR.out w' hw'
        go_simp
        try with_reducible rfl
      (try dsimp only [Act.put]); (try simp only [List.setIfInBounds_toArray, List.set_cons_zero, List.set_cons_succ])
      refine Held.take (i := 7) (some 21) rfl (v := ?_) rfl (by kernel_rfl) (by kernel_rfl) (by kernel_rfl) (fun _ _ _ h => h) (Or.inl ⟨by rfl, ?_⟩) hS ?_
      rotate_left
      · intro w' hw'
        have c6 := CY.out w' hw'
        have c7 := CR.out w' hw'
        go_simp
        try with_reducible rfl
      (try dsimp only [Act.put]); (try simp only [List.setIfInBounds_toArray, List.set_cons_zero, List.set_cons_succ])
      refine Held.take (i := 8) (some 22) rfl (v := ?_) rfl (by kernel_rfl) (by kernel_rfl) (by kernel_rfl) (fun _ _ _ h => h) (Or.inl ⟨by rfl, ?_⟩) hS ?_
      rotate_left
      · intro w' hw'
        have c6 := CY.out w' hw'
        have c7 := CR.out w' hw'
        go_simp
        try with_reducible rfl
      (try dsimp only [Act.put]); (try simp only [List.setIfInBounds_toArray, List.set_cons_zero, List.set_cons_succ])
      refine Held.take (i := 9) (some 23) rfl (v := ?_) rfl (by kernel_rfl) (by kernel_rfl) (by kernel_rfl) (fun _ _ _ h => h) (Or.inl ⟨by rfl, ?_⟩) hS ?_
      rotate_left
      · intro w' hw'
        have c6 := CY.out w' hw'
        have c7 := CR.out w' hw'
        go_simp
        try with_reducible rfl
      (try dsimp only [Act.put]); (try simp only [List.setIfInBounds_toArray, List.set_cons_zero, List.set_cons_succ])
      refine Held.take (i := 10) (some 24) rfl (v := ?_) rfl (by kernel_rfl) (by kernel_rfl) (by kernel_rfl) (fun _ _ _ h => h) (Or.inl ⟨by rfl, ?_⟩) hS ?_
      rotate_left
      · intro w' hw'
        have c6 := CY.out w' hw'
        have c7 := CR.out w' hw'
        go_simp
        try with_reducible rfl
      (try dsimp only [Act.put]); (try simp only [List.setIfInBounds_toArray, List.set_cons_zero, List.set_cons_succ])
      clear CY CR
      refine wpAnyH_ready (rs := [11]) (by kernel_rfl) (by simp) (AllReadyH.cons rfl (fun K hK => ?_) AllReadyH.nil)
      go_simp
      have r1 : Hid (IntRow (v.alloc (.cells #[I u.yellow, I u.red] 3)) ⟨some ⟨v.heap.size, 0, none⟩, 2⟩ [u.yellow, u.red]) := Lib.hid (row_new v 3 [u.yellow, u.red] 2 rfl (by decide) _ rfl)
      have o1 := hO.below ((Below.refl v.heap.size v).alloc (Nat.le_refl _) (.cells #[I u.yellow, I u.red] 3))
      have s1 := hS.alloc hv3 (.cells #[I u.yellow, I u.red] 3)
      have z1 : (v.alloc (.cells #[I u.yellow, I u.red] 3)).heap.size = v.heap.size + 1 := by simp
      have v1 : w3.heap.size ≤ (v.alloc (.cells #[I u.yellow, I u.red] 3)).heap.size := by rw [z1]; omega
      clear hS hO z1
      generalize v.heap.size = b1 at r1 ⊢
      generalize World.alloc v _ = v at r1 o1 s1 v1 ⊢
      refine hK.out _ _ s1 (fun hS => ?_)
      clear hK K s1
      refine wpAnyH_ready (rs := [12]) (by kernel_rfl) (by simp) (AllReadyH.cons rfl (fun K hK => ?_) AllReadyH.nil)
      go_simp
      refine (sum_len (some ⟨b1, 0, none⟩) 2 [u.yellow, u.red] 2 rfl _ r1.out).mono ?_
      rintro e w' ⟨rfl, hq⟩
      subst w'
      rw [← CL.out]
      go_simp
      refine hK.out _ _ hS (fun hS => ?_)
      clear hK K r1
      generalize clr T ((k : Nat) : Int) = z at MS ⊢
      refine wpAnyH_ready (rs := [13]) (by kernel_rfl) (by simp) (AllReadyH.cons rfl (fun K hK => ?_) AllReadyH.nil)
      go_simp
      have c1 : (v.alloc (.cells #[I z] 3)).cell? ⟨v.heap.size, 0, none⟩ = some (I z) := by rw [cell_of_row _ _ _ _ _ _ (heap_alloc_new v _)]; rfl
      have o2 := o1.below ((Below.refl v.heap.size v).alloc (Nat.le_refl _) (.cells #[I z] 3))
      have s2 := hS.alloc v1 (.cells #[I z] 3)
      have z2 : (v.alloc (.cells #[I z] 3)).heap.size = v.heap.size + 1 := by simp
      have v2 : w3.heap.size ≤ (v.alloc (.cells #[I z] 3)).heap.size := by rw [z2]; omega
      clear hS o1 v1 z2
      generalize v.heap.size = b2 at c1 ⊢
      generalize World.alloc v _ = v at c1 o2 s2 v2 ⊢
      refine hK.out _ _ s2 (fun hS => ?_)
      clear hK K s2
      refine wpAnyH_ready (rs := [14]) (by kernel_rfl) (by simp) (AllReadyH.cons rfl (fun K hK => ?_) AllReadyH.nil)
      rw [if_pos (by rfl)]
      refine wp_append_own _ _ _ _ rfl w3.heap.size 3 i0 (.int .i64 0) 1 8 Try.underlying22 hi hz0 hz1 hz2 rfl (by decide) u3 P1.length _ rfl o2 ⟨b2, 0, none⟩ 1 1 [I z] rfl rfl ?c1 ?c2 ?c3 ?c4 v2 ?_
      case c1 =>
        intro j e hj
        match j, hj with
        | 0, hj => simp at hj; subst hj; rw [Tab.add_zero]; exact c1
      case c2 => intro e he; simp at he; subst he; rfl
      case c3 => unfold maxLen; omega
      case c4 => omega
      intro v' w5 hown' hgrow hnil'
      have s3 : Below w3.heap.size wr w5 := hS.grown hgrow (by omega) (fun m hm => (show OwnsI w3.heap.size v u3 P1 from o2).blk m hm)
      have HO2 : Hid (OwnsI w3.heap.size w5 v' (P1 ++ [z])) := Lib.hid (Owns.snoc hown')
      clear hown' hgrow hnil' hS o2 c1 v2
      refine hK.out _ _ s3 (fun hS => ?_)
      clear hK K s3
      refine Held.take (i := 15) (some 3) rfl (v := ?_) rfl (by kernel_rfl) (by kernel_rfl) (by kernel_rfl) (fun _ _ _ h => h) (Or.inl ⟨by rfl, ?_⟩) hS ?_
      rotate_left
      · intro w' hw'
        go_simp
        try with_reducible rfl
      (try dsimp only [Act.put]); (try simp only [List.setIfInBounds_toArray, List.set_cons_zero, List.set_cons_succ])
      refine wpAnyH_done (by kernel_rfl) ?_ _
      have HB2 := Lib.hid (HB.out.trans hS)
      clear hS
      go_wp2
      go_roundw
      case rel => exact ⟨q + 1, by omega, by go_num, by rw [MS.out]; exact HO2.out, HB2.out⟩
      case measure => simp [intOf]; omega
    · have HE : Hid ((M.take q).map (clr T) = M.map (clr T)) := Lib.hid (by rw [List.take_of_length_le (by omega)])
      obtain ⟨⟨ea, ec⟩, hs, hrow⟩ := HO.out.row (enc := fun n => [I n]) (fun _ => rfl)
      rw [HE.out] at hs hrow
      have HRR := Lib.hid hrow
      have HF : Hid (Below w.heap.size w wr) := Lib.hid ((S3.out.step HB.out).bel)
      clear hrow HE
      subst hs
      generalize M.map (clr T) = P2 at RS HRR ⊢
      rw [show (Sl.val ⟨ea, ec⟩ P2.length) = .slice ea P2.length ec from rfl]
      go_wp2_with fail
      refine (most_row ea ec P2 _ HRR.out).mono ?_
      rintro e w' ⟨rfl, rfl⟩
      rw [← RS.out]
      go_wp2
      go_ret
      exact ⟨rfl, HF.out⟩
end Clear
namespace Rg
open Go Go.ChangeShapes Go.WideShapes Go.ChangeAt Go.RowKit
open Tab Flat TabArg QL Ru PlanM
open ChkM (cfAt)
open PlaceM (where_ spots Spt)
open Clear (phAt)
structure Rg where
  g : Int
  a0 : Int
  a1 : Int
  cr : Bool
deriving DecidableEq
structure Ln where
  n : Int
  x : Int
  t : Int
deriving DecidableEq
def Rg.cells (r : Rg) : List Value := [I r.g, I r.a0, I r.a1, .bool r.cr]
def Ln.cells (l : Ln) : List Value := [I l.n, I l.x, I l.t]
def Rg.at (r : Rg) : Nat → Int
  | 0 => r.a0
  | _ => r.a1
def Rg.put (r : Rg) : Nat → Int → Rg
  | 0, x => ⟨r.g, x, r.a1, r.cr⟩
  | _, x => ⟨r.g, r.a0, x, r.cr⟩
def zRu : Ru := ⟨0, 0, 0, 0, 0, 0, 0, false, false, 0, 0, 0⟩
def runsC (rs : List Ru) : List Value := rs.flatMap Ru.cells
def ruAt (rs : List Ru) (p : Int) : Ru := rs.getD p.toNat zRu
/-- Package ring's tick: its cells. -/
def kC (tc : List Value) (r : Rg) (rc : List Value) (want gr bu : Int) : List Value := tc ++ (r.cells ++ (rc ++ [I want, I gr, I bu]))
section
variable {tc : List Value} {r : Rg} {rc : List Value} {want gr bu : Int} (h1 : tc.length = 131) (h2 : rc.length = 96)
include h1 h2
theorem kC_len : (kC tc r rc want gr bu).length = 234 := by simp [kC, Rg.cells, h1, h2]
theorem kC_t : ((kC tc r rc want gr bu).toArray.toList.drop 0).take tc.length = tc := by simp [kC]
theorem kC_r : ((kC tc r rc want gr bu).toArray.toList.drop 131).take r.cells.length = r.cells := by
  unfold kC
  rw [List.toList_toArray, List.drop_left' h1, List.take_left]
theorem kC_n : ((kC tc r rc want gr bu).toArray.toList.drop 135).take rc.length = rc := by
  unfold kC
  rw [List.toList_toArray, show 135 = 131 + 4 from rfl, ← List.drop_drop, List.drop_left' h1, List.drop_left' (by simp [Rg.cells]), List.take_left]
theorem kC_e : (kC tc r rc want gr bu).toArray.toList.drop 231 = [I want, I gr, I bu] := by
  unfold kC
  rw [List.toList_toArray, show 231 = 131 + (4 + 96) from rfl, ← List.drop_drop, List.drop_left' h1, ← List.drop_drop, List.drop_left' (by simp [Rg.cells]), List.drop_left' h2]
end
theorem at_drop {cs : Array Value} {k : Nat} {l : List Value} (h : cs.toList.drop k = l) (j : Nat) {v : Value} (hv : l[j]? = some v) : cs[k + j]? = some v := by
  rw [← h, List.getElem?_drop, Array.getElem?_toList] at hv
  exact hv
theorem at_take {cs : Array Value} {k : Nat} {l : List Value} (h : (cs.toList.drop k).take l.length = l) (j : Nat) {v : Value} (hv : l[j]? = some v) : cs[k + j]? = some v := by
  have hj : j < l.length := (List.getElem?_eq_some_iff.1 hv).1
  rw [← h, List.getElem?_take, if_pos hj, List.getElem?_drop, Array.getElem?_toList] at hv
  exact hv
/-- The cells of a tick that lies in a block of the call's own. -/
structure KB (u : World) (g : Nat) (tc : List Value) (r : Rg) (rc : List Value) (want gr bu : Int) : Prop where
  lt : Lies u ⟨g, 0, none⟩ tc
  lr : Lies u ⟨g, 131, none⟩ r.cells
  ln : Lies u ⟨g, 135, none⟩ rc
  rg : u.cell? ⟨g, 131, none⟩ = some (I r.g)
  r0 : u.cell? ⟨g, 132, none⟩ = some (I r.a0)
  r1 : u.cell? ⟨g, 133, none⟩ = some (I r.a1)
  rc : u.cell? ⟨g, 134, none⟩ = some (.bool r.cr)
  w : u.cell? ⟨g, 231, none⟩ = some (I want)
  gr : u.cell? ⟨g, 232, none⟩ = some (I gr)
  bu : u.cell? ⟨g, 233, none⟩ = some (I bu)
theorem kb {w u : World} {L : List Blk.Bl} (h : Blk.Bks w L u) (i : Nat) {g : Nat} {ty : TypeId} {tc : List Value} {r : Rg} {rc : List Value} {want gr bu : Int} (h1 : tc.length = 131) (h2 : rc.length = 96) (hi : L[i]? = some (g, (kC tc r rc want gr bu).toArray, ty)) : KB u g tc r rc want gr bu := by
  have e : ∀ (o j : Nat) (v : Value), (kC tc r rc want gr bu).toArray[o]? = some v → u.cell? ⟨g, o, none⟩ = some v := fun o j v hv => h.cell i o hi hv
  exact ⟨seg h i 0 hi _ (kC_t h1 h2), seg h i 131 hi _ (kC_r h1 h2), seg h i 135 hi _ (kC_n h1 h2),
    h.cell i 131 hi (at_take (kC_r h1 h2) 0 rfl), h.cell i 132 hi (at_take (kC_r h1 h2) 1 rfl), h.cell i 133 hi (at_take (kC_r h1 h2) 2 rfl), h.cell i 134 hi (at_take (kC_r h1 h2) 3 rfl),
    h.cell i 231 hi (at_drop (kC_e h1 h2) 0 rfl), h.cell i 232 hi (at_drop (kC_e h1 h2) 1 rfl), h.cell i 233 hi (at_drop (kC_e h1 h2) 2 rfl)⟩
theorem KB.cell {u : World} {g : Nat} {tc : List Value} {r : Rg} {rc : List Value} {want gr bu : Int} (h : KB u g tc r rc want gr bu) {j : Nat} {v : Value} (hj : rc[j]? = some v) : u.cell? ⟨g, 135 + j, none⟩ = some v := by
  have := h.ln j v hj
  rwa [Addr.add_mid] at this
theorem KB.tab {u : World} {g : Nat} {tc : List Value} {r : Rg} {rc : List Value} {want gr bu : Int} (h : KB u g tc r rc want gr bu) {j : Nat} {v : Value} (hj : tc[j]? = some v) : u.cell? ⟨g, j, none⟩ = some v := by
  have := h.lt j v hj
  rwa [Addr.add_mid, Nat.zero_add] at this
theorem runs_take : ∀ {l : List Ru} {q : Nat} {u : Ru}, l[q]? = some u → ((runsC l).drop (q * 12)).take 12 = u.cells
  | [], _, _, h => by simp at h
  | x :: l, 0, u, h => by
    simp at h
    subst h
    simp [runsC, Ru.cells]
  | x :: l, q + 1, u, h => by
    have := runs_take (l := l) (q := q) (by simpa using h)
    rw [show runsC (x :: l) = x.cells ++ runsC l from rfl, show (q + 1) * 12 = x.cells.length + q * 12 by simp [Ru.cells]; omega, ← List.drop_drop, List.drop_left]
    exact this
theorem runs_len : ∀ l : List Ru, (runsC l).length = l.length * 12
  | [] => rfl
  | x :: l => by
    rw [show runsC (x :: l) = x.cells ++ runsC l from rfl, List.length_append, runs_len l]
    simp [Ru.cells]; omega
theorem ru_at {rs : List Ru} (h8 : rs.length = 8) {p : Nat} (hp : p < 8) : rs[p]? = some (ruAt rs p) := by
  unfold ruAt
  rw [Int.toNat_natCast, List.getD_eq_getElem?_getD, List.getElem?_eq_getElem (by omega)]
  rfl
theorem runs_at {rs : List Ru} (h8 : rs.length = 8) {p : Nat} (hp : p < 8) {j : Nat} {v : Value} (hj : (ruAt rs p).cells[j]? = some v) : (runsC rs)[p * 12 + j]? = some v := by
  have h1 := runs_take (ru_at h8 hp)
  have hj12 : j < 12 := by have := (List.getElem?_eq_some_iff.1 hj).1; simpa [Ru.cells] using this
  rw [← h1, List.getElem?_take, if_pos hj12, List.getElem?_drop] at hj
  exact hj
theorem infoRg : (Try.prog.info? 36).map (·.size) = some 4 := by kernel_rfl
theorem infoRs : (Try.prog.info? 46).map (·.size) = some 96 := by kernel_rfl
theorem infoK : (Try.prog.info? 96).map (·.size) = some 234 := by kernel_rfl
theorem infoLn : (Try.prog.info? 99).map (·.size) = some 3 := by kernel_rfl
theorem infoL2 : (Try.prog.info? 101).map (·.size) = some 6 := by kernel_rfl
theorem one_rg (r : Rg) : r.cells.toArray.all (·.oneCell') = true := by simp [Rg.cells, Value.oneCell']
theorem one_ln (r : Ln) : r.cells.toArray.all (·.oneCell') = true := by simp [Ln.cells, Value.oneCell']
theorem one_runs : ∀ rs : List Ru, (runsC rs).toArray.all (·.oneCell') = true
  | [] => by simp [runsC]
  | x :: l => by
    have h := one_runs l
    have hx := one_ru x
    rw [show runsC (x :: l) = x.cells ++ runsC l from rfl]
    rw [List.all_toArray] at h hx ⊢
    rw [List.all_append, hx, h]; rfl
/-! The sets of the phases whose runs a rule holds for. -/
def thTo (f : Ru → Bool) : Nat → List Ru → List Int
  | _, [] => []
  | i, r :: l => (if f r then [(i : Int)] else []) ++ thTo f (i + 1) l
theorem thTo_append (f : Ru → Bool) : ∀ (i : Nat) (l m : List Ru), thTo f i (l ++ m) = thTo f i l ++ thTo f (i + l.length) m
  | i, [], m => by simp [thTo]
  | i, r :: l, m => by
    rw [List.cons_append, thTo, thTo, thTo_append f (i + 1) l m, List.append_assoc, List.length_cons, Nat.add_right_comm i 1, Nat.add_assoc i]
theorem th_step {f : Ru → Bool} {l : List Ru} {q : Nat} {r : Ru} (h : l[q]? = some r) : thTo f 0 (l.take (q + 1)) = thTo f 0 (l.take q) ++ (if f r then [(q : Int)] else []) := by
  have hq : q < l.length := (List.getElem?_eq_some_iff.1 h).1
  rw [PlaceM.take_succ h, thTo_append, List.length_take, Nat.min_eq_left (by omega), Nat.zero_add]
  simp [thTo]
def thS (f : Ru → Bool) (rs : List Ru) : Nat := SetM.of (thTo f 0 rs)
theorem th_with {f : Ru → Bool} {l : List Ru} {q : Nat} {r : Ru} (h : l[q]? = some r) (hp : f r = true) : SetM.withN (SetM.of (thTo f 0 (l.take q)) : Nat) q = SetM.of (thTo f 0 (l.take (q + 1))) := by
  rw [SetM.with_of, th_step h, hp]; rfl
theorem th_skip {f : Ru → Bool} {l : List Ru} {q : Nat} {r : Ru} (h : l[q]? = some r) (hp : f r = false) : SetM.of (thTo f 0 (l.take (q + 1))) = SetM.of (thTo f 0 (l.take q)) := by
  rw [th_step h, hp]; simp
theorem mem_thTo {f : Ru → Bool} {x : Int} : ∀ {l : List Ru} {i : Nat}, x ∈ thTo f i l ↔ ∃ j r, l[j]? = some r ∧ f r = true ∧ x = ((i + j : Nat) : Int)
  | [], i => by simp [thTo]
  | a :: l, i => by
    rw [thTo, List.mem_append, mem_thTo (l := l)]
    constructor
    · rintro (h | ⟨j, r, h1, h2, h3⟩)
      · split at h
        · rename_i ha
          simp at h
          exact ⟨0, a, rfl, ha, by simpa using h⟩
        · simp at h
      · exact ⟨j + 1, r, by simpa using h1, h2, by rw [h3]; congr 1; omega⟩
    · rintro ⟨j, r, h1, h2, h3⟩
      match j, h1, h3 with
      | 0, h1, h3 =>
        simp at h1
        subst h1
        exact .inl (by rw [if_pos h2]; simpa using h3)
      | j + 1, h1, h3 => exact .inr ⟨j, r, by simpa using h1, h2, by rw [h3]; congr 1; omega⟩
theorem th_lt (f : Ru → Bool) (rs : List Ru) : thS f rs < 256 := SetM.of_lt _
theorem th_has {f : Ru → Bool} {rs : List Ru} (h8 : rs.length = 8) (p : Int) : SetM.has (thS f rs : Nat) p = (decide (0 ≤ p ∧ p < 8) && f (ruAt rs p)) := by
  by_cases hp : 0 ≤ p ∧ p < 8
  · obtain ⟨k, rfl⟩ := Int.eq_ofNat_of_zero_le hp.1
    have hk : k < 8 := by omega
    rw [decide_eq_true hp, Bool.true_and, SetM.has_nat, SetM.low_nat _ (th_lt f rs)]
    unfold thS
    rw [SetM.of_test]
    cases e : f (ruAt rs k) with
    | true => exact decide_eq_true ⟨mem_thTo.2 ⟨k, _, ru_at h8 hk, e, by simp⟩, hk⟩
    | false =>
      refine decide_eq_false fun ⟨h, _⟩ => ?_
      obtain ⟨j, r, h1, h2, h3⟩ := mem_thTo.1 h
      obtain rfl : k = j := by omega
      rw [ru_at h8 hk] at h1
      obtain rfl := Option.some.inj h1
      rw [e] at h2; cases h2
  · rw [decide_eq_false hp]
    cases e : SetM.has (thS f rs : Nat) p with
    | true => exact absurd (has_range e) hp
    | false => rfl
def grB (r : Ru) : Bool := r.co == 1
def buB (r : Ru) : Bool := r.co == 1 || (r.co == 2 || r.co == 3)
def gS (rs : List Ru) : Int := (thS grB rs : Nat)
def bS (rs : List Ru) : Int := (thS buB rs : Nat)
/-! P19.1, P19.2, as package ring has it. -/
def nowS (T : Tab) (g : Int) (k : Nat) (a : Int) : Int := if 0 ≤ a ∧ a < ((ringAt T g k).length : Int) then SetM.first (SetM.of [(ringAt T g k).getD a.toNat 0] : Nat) else -1
def lnS (T : Tab) (r : Rg) (want : Int) (k : Nat) : Ln := ⟨nowS T r.g k (r.at k), nextS T r.g k (r.at k) want, nowS T r.g k (nextS T r.g k (r.at k) want)⟩
def begS (T : Tab) (rs : List Ru) (bu : Int) (l : Ln) : Bool := !SetM.has bu l.n && (decide (0 ≤ l.x) && (!SetM.has bu l.t && (decide (T.revert ≤ (ruAt rs l.t).tm) && decide (bits .and .i64 (cfAt T l.t) bu = 0))))
def resS (T : Tab) (rs : List Ru) (want p : Int) : Bool := (phAt T p).rest && (decide ((phAt T p).min ≤ (ruAt rs p).tm) && ((ruAt rs p).fs != 1 && ((ruAt rs p).fs != 2 && ((ruAt rs p).lf == 0 && !SetM.has want p))))
def endS (T : Tab) (rs : List Ru) (want gr : Int) (l : Ln) : Bool := SetM.has gr l.n && (((ruAt rs l.n).dn && decide (0 ≤ l.x)) || resS T rs want l.n)
def setS (rs : List Ru) (gr bu : Int) (l : Ln) : Bool := !decide (0 ≤ l.x) && (!SetM.has bu l.n || (SetM.has gr l.n && (ruAt rs l.n).dn))
def othS (want gr : Int) : Bool := decide (0 ≤ SetM.first (bits .andNot .i64 want gr))
def acrS (T : Tab) (r : Rg) (want bu : Int) : Rg := if bu = 0 then ⟨if followS T r.g want < 0 then r.g else followS T r.g want, -1, -1, false⟩ else r
def stS (b0 b1 : Bool) (t0 t1 : Int) : Int := if b1 then (SetM.withN (if b0 then (SetM.withN 0 t0 : Nat) else 0) t1 : Nat) else if b0 then (SetM.withN 0 t0 : Nat) else 0
def atS (r : Rg) (b0 b1 : Bool) (x0 x1 : Int) : Rg := ⟨r.g, if b0 then x0 else r.a0, if b1 then x1 else r.a1, r.cr⟩
structure So where
  r : Rg
  st : Int
  en : Int
deriving DecidableEq
def stepL (T : Tab) (r : Rg) (rs : List Ru) (want gr bu : Int) (l0 l1 : Ln) : So :=
  let st := stS (begS T rs bu l0) (begS T rs bu l1) l0.t l1.t
  let en := stS (endS T rs want gr l0) (endS T rs want gr l1) l0.n l1.n
  let r' := atS r (begS T rs bu l0) (begS T rs bu l1) l0.x l1.x
  if bits .or .i64 st en = 0 ∧ (setS rs gr bu l0 = true ∧ setS rs gr bu l1 = true) ∧ othS want gr = true then ⟨⟨r'.g, r'.a0, r'.a1, true⟩, st, gr⟩ else ⟨r', st, en⟩
def stepS (T : Tab) (r : Rg) (rs : List Ru) (want : Int) : So :=
  if r.cr then ⟨acrS T r want (bS rs), 0, 0⟩ else stepL T r rs want (gS rs) (bS rs) (lnS T r want 0) (lnS T r want 1)
def putS (T : Tab) (exit : Int) : Rg := (SetM.list exit).foldl (fun r p => match where_ T p with
  | some y => if (y.g : Int) = r.g ∧ r.at y.k < 0 then r.put y.k y.i else r
  | none => r) ⟨match where_ T (SetM.first exit) with | some x => (x.g : Int) | none => 0, -1, -1, false⟩
end Rg
namespace Set
open Go.ChangeShapes Go.WideShapes Go.ChangeAt Go.RowKit
open Go.Proofs.Ytjgpljnbeolapaa
theorem ret_int {k : IntKind} {a b : Int} (h : a = b) : Ending.returned (.int k a) = .returned (.int k b) := by rw [h]
theorem ret_bool {a b : Bool} (h : a = b) : Ending.returned (.bool a) = .returned (.bool b) := by rw [h]
theorem eight {p : Int} (h : 0 ≤ p) (h' : p < 8) : p = 0 ∨ p = 1 ∨ p = 2 ∨ p = 3 ∨ p = 4 ∨ p = 5 ∨ p = 6 ∨ p = 7 := by omega
theorem bit_any (p : Int) (w : World) : Calls Try.prog 64 #[.int .i64 p] w fun e w' => e = .returned (.int .i64 (SetM.bit p)) ∧ w = w' := by
  by_cases h1 : p < 0
  · have HB := Lib.hid (SetM.bit_out (p := p) (by omega))
    go_enter Try.func64, Try.ntmps64
    go_wp2
    go_ret
    exact ⟨ret_int (by rw [HB.out]; rfl), rfl⟩
  by_cases h2 : 8 ≤ p
  · have HB := Lib.hid (SetM.bit_out (p := p) (by omega))
    go_enter Try.func64, Try.ntmps64
    go_wp2
    go_ret
    exact ⟨ret_int (by rw [HB.out]; rfl), rfl⟩
  rcases eight (p := p) (by omega) (by omega) with rfl | rfl | rfl | rfl | rfl | rfl | rfl | rfl
  all_goals
    clear h1 h2
    go_enter Try.func64, Try.ntmps64
    go_wp2
    go_ret
    exact ⟨ret_int (by decide), rfl⟩
theorem ne_has (s p : Int) : (bits .and .i64 s (SetM.bit p) != 0) = SetM.has s p := by
  have h := SetM.has_and s p
  cases hb : SetM.has s p
  · rw [h.2 hb]; rfl
  · rw [bne_iff_ne]; intro e; rw [h.1 e] at hb; cases hb
theorem has_any (s p : Int) (w : World) : Calls Try.prog 59 #[.int .i64 s, .int .i64 p] w fun e w' => e = .returned (.bool (SetM.has s p)) ∧ w = w' := by
  have HB := Lib.hid (ne_has s p)
  go_enter Try.func59, Try.ntmps59
  go_wp2_with (go_at_call 64; refine (bit_any _ _).mono ?_; rintro e w' ⟨rfl, rfl⟩)
  go_ret
  exact ⟨ret_bool HB.out, rfl⟩
theorem with_any (s p : Int) (w : World) : Calls Try.prog 43 #[.int .i64 s, .int .i64 p] w fun e w' => e = .returned (.int .i64 (SetM.withN s p)) ∧ w = w' := by
  have HB := Lib.hid (SetM.with_bits s p)
  go_enter Try.func43, Try.ntmps43
  go_wp2_with (go_at_call 64; refine (bit_any _ _).mono ?_; rintro e w' ⟨rfl, rfl⟩)
  go_ret
  exact ⟨ret_int HB.out, rfl⟩
/-! the document's own answer -/
end Set
namespace Rg
open Go Go.ChangeShapes Go.WideShapes Go.ChangeAt Go.RowKit
open Tab Flat TabArg QL Ru PlanM
open ChkM (cfAt)
open Clear (phAt)
open PlaceM (where_ spots Spt)
open May (infoP)
theorem isGreen_any (r : Ru) (w : World) : Calls Try.prog 38 #[.agg (Ru.cells r).toArray] w fun e w' => e = .returned (.bool (grB r)) ∧ Below w.heap.size w w' := by
  obtain ⟨co, hco⟩ : ∃ x, r.co = x := ⟨_, rfl⟩
  by_cases h1 : co = 1
  · subst h1
    have HE : Hid (grB r = true) := Lib.hid (by unfold grB; rw [hco]; rfl)
    have hn0 := Blk.Bks.nil w
    have hn1 := hn0.alloc (Ru.cells r).toArray 45
    clear hn0
    go_enter Try.func38, Try.ntmps38
    go_upto_region 1 with fail
    generalize World.alloc w _ = v at hn1 ⊢
    generalize hg0 : w.heap.size = gq at hn1 ⊢
    clear hg0
    have H0 := Lib.hid hn1
    clear hn1
    have c0 : v.cell? ⟨gq, 0, none⟩ = some (I r.co) := H0.out.cell 0 0 rfl rfl
    rw [hco] at c0
    go_wp2
    go_ret
    exact ⟨ret_bool (by first | exact HE.out.symm | (unfold grB; rw [hco]) | (unfold buB; rw [hco, Bool.or_assoc])), H0.out.bel⟩
  · have HE : Hid (grB r = false) := Lib.hid (by unfold grB; rw [hco]; simp [h1])
    have hn0 := Blk.Bks.nil w
    have hn1 := hn0.alloc (Ru.cells r).toArray 45
    clear hn0
    go_enter Try.func38, Try.ntmps38
    go_upto_region 1 with fail
    generalize World.alloc w _ = v at hn1 ⊢
    generalize hg0 : w.heap.size = gq at hn1 ⊢
    clear hg0
    have H0 := Lib.hid hn1
    clear hn1
    have c0 : v.cell? ⟨gq, 0, none⟩ = some (I r.co) := H0.out.cell 0 0 rfl rfl
    rw [hco] at c0
    go_wp2
    go_ret
    exact ⟨ret_bool (by first | exact HE.out.symm | (unfold grB; rw [hco]) | (unfold buB; rw [hco, Bool.or_assoc])), H0.out.bel⟩
theorem isBusy_any (r : Ru) (w : World) : Calls Try.prog 39 #[.agg (Ru.cells r).toArray] w fun e w' => e = .returned (.bool (buB r)) ∧ Below w.heap.size w w' := by
  obtain ⟨co, hco⟩ : ∃ x, r.co = x := ⟨_, rfl⟩
  by_cases h1 : co = 1
  · subst h1
    have HE : Hid (buB r = true) := Lib.hid (by unfold buB; rw [hco]; rfl)
    have hn0 := Blk.Bks.nil w
    have hn1 := hn0.alloc (Ru.cells r).toArray 45
    clear hn0
    go_enter Try.func39, Try.ntmps39
    go_upto_region 1 with fail
    generalize World.alloc w _ = v at hn1 ⊢
    generalize hg0 : w.heap.size = gq at hn1 ⊢
    clear hg0
    have H0 := Lib.hid hn1
    clear hn1
    have c0 : v.cell? ⟨gq, 0, none⟩ = some (I r.co) := H0.out.cell 0 0 rfl rfl
    rw [hco] at c0
    go_wp2
    go_ret
    exact ⟨ret_bool (by first | exact HE.out.symm | (unfold grB; rw [hco]) | (unfold buB; rw [hco, Bool.or_assoc])), H0.out.bel⟩
  by_cases h2 : co = 2
  · subst h2
    have HE : Hid (buB r = true) := Lib.hid (by unfold buB; rw [hco]; rfl)
    have hn0 := Blk.Bks.nil w
    have hn1 := hn0.alloc (Ru.cells r).toArray 45
    clear hn0
    go_enter Try.func39, Try.ntmps39
    go_upto_region 1 with fail
    generalize World.alloc w _ = v at hn1 ⊢
    generalize hg0 : w.heap.size = gq at hn1 ⊢
    clear hg0
    have H0 := Lib.hid hn1
    clear hn1
    have c0 : v.cell? ⟨gq, 0, none⟩ = some (I r.co) := H0.out.cell 0 0 rfl rfl
    rw [hco] at c0
    go_wp2
    go_ret
    exact ⟨ret_bool (by first | exact HE.out.symm | (unfold grB; rw [hco]) | (unfold buB; rw [hco, Bool.or_assoc])), H0.out.bel⟩
  by_cases h3 : co = 3
  · subst h3
    have HE : Hid (buB r = true) := Lib.hid (by unfold buB; rw [hco]; rfl)
    have hn0 := Blk.Bks.nil w
    have hn1 := hn0.alloc (Ru.cells r).toArray 45
    clear hn0
    go_enter Try.func39, Try.ntmps39
    go_upto_region 1 with fail
    generalize World.alloc w _ = v at hn1 ⊢
    generalize hg0 : w.heap.size = gq at hn1 ⊢
    clear hg0
    have H0 := Lib.hid hn1
    clear hn1
    have c0 : v.cell? ⟨gq, 0, none⟩ = some (I r.co) := H0.out.cell 0 0 rfl rfl
    rw [hco] at c0
    go_wp2
    go_ret
    exact ⟨ret_bool (by first | exact HE.out.symm | (unfold grB; rw [hco]) | (unfold buB; rw [hco, Bool.or_assoc])), H0.out.bel⟩
  · have HE : Hid (buB r = false) := Lib.hid (by unfold buB; rw [hco]; simp [h1, h2, h3])
    have hn0 := Blk.Bks.nil w
    have hn1 := hn0.alloc (Ru.cells r).toArray 45
    clear hn0
    go_enter Try.func39, Try.ntmps39
    go_upto_region 1 with fail
    generalize World.alloc w _ = v at hn1 ⊢
    generalize hg0 : w.heap.size = gq at hn1 ⊢
    clear hg0
    have H0 := Lib.hid hn1
    clear hn1
    have c0 : v.cell? ⟨gq, 0, none⟩ = some (I r.co) := H0.out.cell 0 0 rfl rfl
    rw [hco] at c0
    go_wp2
    go_ret
    exact ⟨ret_bool (by first | exact HE.out.symm | (unfold grB; rw [hco]) | (unfold buB; rw [hco, Bool.or_assoc])), H0.out.bel⟩
theorem cellsR : Try.prog.cellsOf 45 = 12 := by kernel_rfl
theorem rowR : Flat.rowT Try.prog 45 = true := by kernel_rfl
theorem infoRz : ∃ i, Try.prog.info? 45 = some i ∧ i.size = 12 := by
  have h : (Try.prog.info? 45).map (·.size) = some 12 := infoRu
  cases e : Try.prog.info? 45 with
  | none => rw [e] at h; cases h
  | some i => rw [e] at h; exact ⟨i, rfl, Option.some.inj h⟩
theorem ret_int {k : IntKind} {a b : Int} (h : a = b) : Ending.returned (.int k a) = .returned (.int k b) := by rw [h]
theorem idx_run {l : List Ru} {q : Nat} {u : Ru} (hl : l.length = 8) (hu : l[q]? = some u) (w : World) :
    Sem.run Try.prog (Instr.index 46 (.agg (runsC l).toArray) (.int .i64 q)) w = .ok (.agg u.cells.toArray) w := by
  have hq : q < l.length := (List.getElem?_eq_some_iff.1 hu).1
  obtain ⟨i, hi, hs⟩ := infoRz
  have hp := Flat.run_part (P := Try.prog) w (t := 45) (d := _) Try.underlying45 (by rw [rowR]; simp) (runsC l) (q * 12) (by rw [cellsR, runs_len]; omega)
  rw [cellsR, Flat.vOf, if_pos rowR, runs_take hu] at hp
  unfold Instr.index
  have hc : 0 ≤ (q : Int) ∧ (q : Int) < 8 := by omega
  simp [run_underlying Try.underlying46, asIntOf]
  rw [if_pos (by omega)]
  first | exact hp | (rw [cellsR]; exact hp)
theorem those_any (F : FuncId) (fb : Ru → Bool) (hE : ∀ args W, Sem.run Try.prog (callFunc F args) W = .ok (.enter F args) W) (hF : ∀ u W, Calls Try.prog F #[.agg (Ru.cells u).toArray] W fun e w' => e = .returned (.bool (fb u)) ∧ Below W.heap.size W w') (rs : List Ru) (h8 : rs.length = 8) (w : World) : Calls Try.prog 37 #[.agg (runsC rs).toArray, .func (.func F) #[] #[]] w fun e w' => e = .returned (.int .i64 (thS fb rs : Nat)) ∧ Below w.heap.size w w' := by
  have RS : Hid (((thS fb rs : Nat) : Int) = (SetM.of (thTo fb 0 (rs.take 8)) : Nat)) := Lib.hid (by rw [List.take_of_length_le (by omega)]; rfl)
  have IX : Hid (∀ (q : Nat) u, rs[q]? = some u → ∀ W, Sem.run Try.prog (Instr.index 46 (.agg (runsC rs).toArray) (.int .i64 q)) W = .ok (.agg u.cells.toArray) W) := Lib.hid (fun q u hu W => idx_run h8 hu W)
  have LI : Hid ((Try.prog.info? 46).map (·.size) = some (runsC rs).length) := Lib.hid (by rw [runs_len, h8]; exact infoRs)
  have hs0 : (runsC rs).length = 96 := by rw [runs_len, h8]
  have HEH := Lib.hid hE
  have HFH := Lib.hid hF
  have L8 := Lib.hid h8
  generalize hrs : ((thS fb rs : Nat) : Int) = res at RS ⊢
  clear hE hF hrs
  generalize hrc : runsC rs = fl at *
  clear hrc h8
  have hn0 := Blk.Bks.nil w
  have hn1 := hn0.alloc fl.toArray 46
  clear hn0
  go_enter Try.func37, Try.ntmps37
  go_upto_region 2 with fail
  generalize World.alloc w _ = v at hn1 ⊢
  generalize hg0 : w.heap.size = gq at hn1 ⊢
  clear hg0
  have H0 := Lib.hid hn1
  clear hn1
  clear hs0
  go_wp2_with (refine Row.wpList_load_g 46 _ rfl (by first | rfl | (go_simp; done) | fail) ⟨gq, 0, none⟩ rfl fl _ (seg H0.out 0 0 rfl _ (by simp)) Try.underlying46 rfl LI.out ?_)
  go_loopw [5, 9] (fun v g wr => ∃ q : Nat, q ≤ 8 ∧ g = .int .i64 q ∧ v = .int .i64 (SetM.of (thTo fb 0 (rs.take q)) : Nat) ∧ Below w.heap.size w wr) (fun _ g _ => 8 - (intOf g).toNat)
  case atStart => exact ⟨0, by omega, rfl, rfl, H0.out.bel⟩
  case round =>
    obtain ⟨q, hq, rfl, rfl, hbel⟩ := hrel
    have HB := Lib.hid hbel
    clear hbel
    by_cases hlt : q < 8
    · have hv : rs[q]? = some (ruAt rs q) := ru_at L8.out hlt
      generalize ruAt rs q = u at hv
      have HV := Lib.hid hv
      have hidx := IX.out q u hv
      clear hv
      have hsz := HB.out.size
      go_upto_region 5 with (refine Row.wpList_store_new rfl 45 _ _ rfl wr _ u.cells.toArray rfl rfl rfl infoRu rfl (one_ru _) ?_)
      clear hidx
      have hbn : Below w.heap.size w (wr.alloc (.cells u.cells.toArray 45)) := HB.out.alloc hsz _
      have hg := Row.lies_of_block (heap_alloc_new wr (.cells u.cells.toArray 45))
      have HL := Lib.hid hg
      have HN := Lib.hid hbn
      clear hg hbn HB hsz
      generalize wr.alloc (.cells u.cells.toArray 45) = w4 at HL HN ⊢
      generalize wr.heap.size = b4 at HL ⊢
      have hE := HEH.out
      go_wp2_with (refine Row.wpList_load_g 45 _ rfl (by first | rfl | (go_simp; done) | fail) ⟨b4, 0, none⟩ rfl u.cells _ HL.out Try.underlying45 rfl infoRu ?_)
      refine (HFH.out u _).mono ?_
      rintro e w5 ⟨rfl, hb5⟩
      clear hE
      have HN5 : Hid (Below w.heap.size w w5) := Lib.hid (HN.out.trans (hb5.mono HN.out.size))
      clear hb5 HN HL
      cases hon : fb u with
      | true =>
        have HS := Lib.hid (th_with HV.out hon)
        clear hon
        generalize SetM.of (thTo fb 0 (rs.take q)) = s0 at HS ⊢
        go_wp2_with (go_at_call 43; refine (Set.with_any _ _ _).mono ?_; rintro e w' ⟨rfl, rfl⟩)
        go_roundw
        case rel => exact ⟨q + 1, by omega, by go_num, by rw [← HS.out], HN5.out⟩
        case measure => simp [intOf]; omega
      | false =>
        have HS := Lib.hid (th_skip HV.out hon)
        clear hon
        generalize SetM.of (thTo fb 0 (rs.take q)) = s0 at HS ⊢
        go_wp2
        go_roundw
        case rel => exact ⟨q + 1, by omega, by go_num, by rw [← HS.out], HN5.out⟩
        case measure => simp [intOf]; omega
    · obtain rfl : q = 8 := by omega
      have HE : Hid (((SetM.of (thTo fb 0 (rs.take 8)) : Nat) : Int) = res) := Lib.hid RS.out.symm
      generalize SetM.of (thTo fb 0 (rs.take 8)) = s0 at HE ⊢
      go_wp2
      go_ret
      exact ⟨ret_int HE.out, HB.out⟩
theorem thoseG (rs : List Ru) (h8 : rs.length = 8) (w : World) : Calls Try.prog 37 #[.agg (runsC rs).toArray, .func (.func 38) #[] #[]] w fun e w' => e = .returned (.int .i64 (thS grB rs : Nat)) ∧ Below w.heap.size w w' := those_any 38 grB (fun _ _ => rfl) (fun u W => isGreen_any u W) rs h8 w
theorem thoseB (rs : List Ru) (h8 : rs.length = 8) (w : World) : Calls Try.prog 37 #[.agg (runsC rs).toArray, .func (.func 39) #[] #[]] w fun e w' => e = .returned (.int .i64 (thS buB rs : Nat)) ∧ Below w.heap.size w w' := those_any 39 buB (fun _ _ => rfl) (fun u W => isBusy_any u W) rs h8 w
end Rg
namespace SetP
open Go.ChangeShapes Go.WideShapes Go.ChangeAt Go.RowKit
open Go.Proofs.Ytjgpljnbeolapaa
theorem ret_int {k : IntKind} {a b : Int} (h : a = b) : Ending.returned (.int k a) = .returned (.int k b) := by rw [h]
theorem ret_bool {a b : Bool} (h : a = b) : Ending.returned (.bool a) = .returned (.bool b) := by rw [h]
theorem eight {p : Int} (h : 0 ≤ p) (h' : p < 8) : p = 0 ∨ p = 1 ∨ p = 2 ∨ p = 3 ∨ p = 4 ∨ p = 5 ∨ p = 6 ∨ p = 7 := by omega
theorem bit_any (p : Int) (w : World) : Calls Try.prog 64 #[.int .i64 p] w fun e w' => e = .returned (.int .i64 (SetM.bit p)) ∧ w = w' := by
  by_cases h1 : p < 0
  · have HB := Lib.hid (SetM.bit_out (p := p) (by omega))
    go_enter Try.func64, Try.ntmps64
    go_wp2
    go_ret
    exact ⟨ret_int (by rw [HB.out]; rfl), rfl⟩
  by_cases h2 : 8 ≤ p
  · have HB := Lib.hid (SetM.bit_out (p := p) (by omega))
    go_enter Try.func64, Try.ntmps64
    go_wp2
    go_ret
    exact ⟨ret_int (by rw [HB.out]; rfl), rfl⟩
  rcases eight (p := p) (by omega) (by omega) with rfl | rfl | rfl | rfl | rfl | rfl | rfl | rfl
  all_goals
    clear h1 h2
    go_enter Try.func64, Try.ntmps64
    go_wp2
    go_ret
    exact ⟨ret_int (by decide), rfl⟩
theorem ne_has (s p : Int) : (bits .and .i64 s (SetM.bit p) != 0) = SetM.has s p := by
  have h := SetM.has_and s p
  cases hb : SetM.has s p
  · rw [h.2 hb]; rfl
  · rw [bne_iff_ne]; intro e; rw [h.1 e] at hb; cases hb
theorem has_any (s p : Int) (w : World) : Calls Try.prog 59 #[.int .i64 s, .int .i64 p] w fun e w' => e = .returned (.bool (SetM.has s p)) ∧ w = w' := by
  have HB := Lib.hid (ne_has s p)
  go_enter Try.func59, Try.ntmps59
  go_wp2_with (go_at_call 64; refine (bit_any _ _).mono ?_; rintro e w' ⟨rfl, rfl⟩)
  go_ret
  exact ⟨ret_bool HB.out, rfl⟩
theorem with_any (s p : Int) (w : World) : Calls Try.prog 43 #[.int .i64 s, .int .i64 p] w fun e w' => e = .returned (.int .i64 (SetM.withN s p)) ∧ w = w' := by
  have HB := Lib.hid (SetM.with_bits s p)
  go_enter Try.func43, Try.ntmps43
  go_wp2_with (go_at_call 64; refine (bit_any _ _).mono ?_; rintro e w' ⟨rfl, rfl⟩)
  go_ret
  exact ⟨ret_int HB.out, rfl⟩
theorem with_take (l : List Int) (k : Nat) (h : k < l.length) : SetM.withN (SetM.of (l.take k) : Nat) (l.getD k 0) = SetM.of (l.take (k + 1)) := by
  rw [RefS.take_succ l k h, SetM.with_of]
theorem of_any (a : Option Addr) (cap : Nat) (l : List Int) (w : World) (h : RefS.Row w a l) :
    Calls Try.prog 58 #[.slice a l.length cap] w fun e w' => e = .returned (.int .i64 (SetM.of l : Nat)) ∧ w = w' := by
  have h1 := h.1
  unfold maxLen at h1
  have Hr := Lib.hid h
  clear h
  go_enter Try.func58, Try.ntmps58
  go_wp2
  go_loop [3, 8] (fun t i => ∃ k : Nat, k ≤ l.length ∧ i = .int .i64 k ∧ t = .int .i64 (SetM.of (l.take k) : Nat)) (fun _ i => l.length - (intOf i).toNat)
  case atStart => exact ⟨0, Nat.zero_le _, rfl, rfl⟩
  case round =>
    obtain ⟨k, hk, rfl, rfl⟩ := hrel
    by_cases hlt : k < l.length
    · have HS := with_take l k hlt
      obtain ⟨x, rfl, hc⟩ := Hr.out.cells hlt
      have hcell := hc k hlt
      clear hc
      generalize l.getD k 0 = y at HS hcell
      have HS2 := Lib.hid HS
      clear HS
      go_wp2_with (go_at_call 43; refine (SetP.with_any _ _ _).mono ?_; rintro e w' ⟨rfl, rfl⟩)
      go_round
      case rel => exact ⟨k + 1, by omega, by go_num, by rw [HS2.out]⟩
      case measure => simp [intOf]; omega
    · go_wp2
      go_ret
      have : k = l.length := by omega
      subst this
      exact ⟨by rw [List.take_of_length_le (Nat.le_refl _)]; rfl, rfl⟩
end SetP
end Go.Proofs.Ytjgpljnbeolapaa
