/- The answers of chapter 8 as plain functions of a table: the first place that meets a condition, a group's set, the next place, the following group. No program in it. -/
import Derived.Test.YtfnpcfibgabmfaaPlaceM
import Derived.Test.YtfnpcfibgabmfaaSetM
namespace Go.Proofs.Ytfnpcfibgabmfaa.PlanM
open Go Tab PlaceM
def Lt (x y : Spt) : Prop := x.g < y.g ∨ x.g = y.g ∧ (x.k < y.k ∨ x.k = y.k ∧ x.i < y.i)
theorem Lt.irrefl {x : Spt} (h : Lt x x) : False := by unfold Lt at h; omega
theorem mem_one {g k i : Nat} {p : Int} {x : Spt} : x ∈ one g k i p ↔ x = ⟨g, k, i, p⟩ ∧ 0 ≤ p ∧ p < 8 := by
  unfold one
  split
  · rename_i h; simp [h]
  · rename_i h
    constructor
    · intro hx; simp at hx
    · intro hx; exact absurd hx.2 h
theorem mem_row {g k : Nat} {x : Spt} : ∀ {i : Nat} {l : List Int}, x ∈ rowS g k i l ↔ x.g = g ∧ x.k = k ∧ i ≤ x.i ∧ l[x.i - i]? = some x.p ∧ 0 ≤ x.p ∧ x.p < 8
  | i, [] => by simp [rowS]
  | i, p :: l => by
    rw [rowS, List.mem_append, mem_one, mem_row]
    constructor
    · rintro (⟨rfl, h1, h2⟩ | ⟨h1, h2, h3, h4, h5⟩)
      · exact ⟨rfl, rfl, Nat.le_refl _, by simp, h1, h2⟩
      · refine ⟨h1, h2, by omega, ?_, h5⟩
        rw [show x.i - i = (x.i - (i + 1)) + 1 by omega, List.getElem?_cons_succ]; exact h4
    · rintro ⟨h1, h2, h3, h4, h5, h6⟩
      by_cases e : x.i = i
      · left
        rw [e, Nat.sub_self, List.getElem?_cons_zero] at h4
        obtain rfl := Option.some.inj h4
        obtain ⟨a, b, c, d⟩ := x
        simp only at h1 h2 e h5 h6 ⊢
        subst h1 h2 e
        exact ⟨rfl, h5, h6⟩
      · right
        refine ⟨h1, h2, by omega, ?_, h5, h6⟩
        rw [show x.i - i = (x.i - (i + 1)) + 1 by omega, List.getElem?_cons_succ] at h4; exact h4
/-- A group's row by its number. -/
def ringOf (y : List Int × List Int) (k : Nat) : List Int := if k = 0 then y.1 else if k = 1 then y.2 else []
theorem mem_all {x : Spt} : ∀ {g : Nat} {l : List (List Int × List Int)}, x ∈ allS g l ↔ g ≤ x.g ∧ ∃ y, l[x.g - g]? = some y ∧ (ringOf y x.k)[x.i]? = some x.p ∧ 0 ≤ x.p ∧ x.p < 8
  | g, [] => by simp [allS]
  | g, y :: l => by
    rw [allS, grpS, List.mem_append, List.mem_append, mem_row, mem_row, mem_all]
    constructor
    · rintro ((⟨h1, h2, h3, h4, h5⟩ | ⟨h1, h2, h3, h4, h5⟩) | ⟨h1, z, h2, h3⟩)
      · exact ⟨by omega, y, by rw [h1, Nat.sub_self]; rfl, by rw [h2]; simpa [ringOf] using h4, h5⟩
      · exact ⟨by omega, y, by rw [h1, Nat.sub_self]; rfl, by rw [h2]; simpa [ringOf] using h4, h5⟩
      · exact ⟨by omega, z, by rw [show x.g - g = (x.g - (g + 1)) + 1 by omega, List.getElem?_cons_succ]; exact h2, h3⟩
    · rintro ⟨h1, z, h2, h3, h4⟩
      by_cases e : x.g = g
      · left
        rw [e, Nat.sub_self, List.getElem?_cons_zero] at h2
        obtain rfl := Option.some.inj h2
        unfold ringOf at h3
        by_cases e0 : x.k = 0
        · rw [if_pos e0] at h3
          exact .inl ⟨e, e0, Nat.zero_le _, h3, h4⟩
        · rw [if_neg e0] at h3
          by_cases e1 : x.k = 1
          · rw [if_pos e1] at h3
            exact .inr ⟨e, e1, Nat.zero_le _, h3, h4⟩
          · rw [if_neg e1] at h3
            simp at h3
      · right
        rw [show x.g - g = (x.g - (g + 1)) + 1 by omega, List.getElem?_cons_succ] at h2
        exact ⟨by omega, z, h2, h3, h4⟩
theorem mem_spots {T : Tab} {x : Spt} : x ∈ spots T ↔ ∃ y, T.groups[x.g]? = some y ∧ (ringOf y x.k)[x.i]? = some x.p ∧ 0 ≤ x.p ∧ x.p < 8 := by
  unfold spots
  rw [mem_all]
  simp
theorem one_sorted (g k i : Nat) (p : Int) : (one g k i p).Pairwise Lt := by unfold one; split <;> simp
theorem row_sorted (g k : Nat) : ∀ (i : Nat) (l : List Int), (rowS g k i l).Pairwise Lt
  | i, [] => List.Pairwise.nil
  | i, p :: l => by
    rw [rowS, List.pairwise_append]
    refine ⟨one_sorted g k i p, row_sorted g k (i + 1) l, fun x hx y hy => ?_⟩
    obtain ⟨rfl, _⟩ := mem_one.1 hx
    obtain ⟨h1, h2, h3, _⟩ := mem_row.1 hy
    unfold Lt
    simp only
    omega
theorem all_sorted : ∀ (g : Nat) (l : List (List Int × List Int)), (allS g l).Pairwise Lt
  | g, [] => List.Pairwise.nil
  | g, y :: l => by
    rw [allS, grpS, List.pairwise_append, List.pairwise_append]
    refine ⟨⟨row_sorted g 0 0 y.1, row_sorted g 1 0 y.2, fun x hx z hz => ?_⟩, all_sorted (g + 1) l, fun x hx z hz => ?_⟩
    · obtain ⟨h1, h2, _⟩ := mem_row.1 hx
      obtain ⟨h3, h4, _⟩ := mem_row.1 hz
      unfold Lt
      omega
    · obtain ⟨h1, _⟩ := mem_all.1 hz
      have h2 : x.g = g := by
        rcases List.mem_append.1 hx with hx | hx
        · exact (mem_row.1 hx).1
        · exact (mem_row.1 hx).1
      unfold Lt
      omega
theorem spots_sorted (T : Tab) : (spots T).Pairwise Lt := all_sorted 0 _
theorem find_hit {c : Spt → Bool} {x : Spt} : ∀ {l : List Spt}, l.Pairwise Lt → x ∈ l → c x = true → (∀ y ∈ l, Lt y x → c y = false) → l.find? c = some x
  | [], _, hx, _, _ => by simp at hx
  | y :: l, hp, hx, hc, hn => by
    rw [List.pairwise_cons] at hp
    rcases List.mem_cons.1 hx with rfl | hx
    · rw [List.find?_cons, hc]
    · rw [List.find?_cons, hn y (by simp) (hp.1 x hx)]
      exact find_hit hp.2 hx hc (fun z hz => hn z (by simp [hz]))
theorem find_miss {c : Spt → Bool} {l : List Spt} (h : ∀ y ∈ l, c y = false) : l.find? c = none := by
  rw [List.find?_eq_none]
  intro x hx
  rw [h x hx]; simp
/-- A group's rows, none where there is no group. -/
def rowsAt (T : Tab) (g : Int) : List Int × List Int := if 0 ≤ g ∧ g < T.groups.length then T.groups.getD g.toNat ([], []) else ([], [])
def ringAt (T : Tab) (g r : Int) : List Int := if r = 0 then (rowsAt T g).1 else if r = 1 then (rowsAt T g).2 else []
theorem rows_in {T : Tab} {g : Nat} {y : List Int × List Int} (h : T.groups[g]? = some y) : rowsAt T g = y := by
  have hg : g < T.groups.length := (List.getElem?_eq_some_iff.1 h).1
  unfold rowsAt
  rw [if_pos ⟨by omega, by omega⟩, Int.toNat_natCast, List.getD_eq_getElem?_getD, h]; rfl
theorem rows_out {T : Tab} {g : Int} (h : ¬ (0 ≤ g ∧ g < T.groups.length)) : rowsAt T g = ([], []) := by unfold rowsAt; rw [if_neg h]
theorem mem_ringAt {T : Tab} {x : Spt} : x ∈ spots T ↔ (ringAt T x.g x.k)[x.i]? = some x.p ∧ 0 ≤ x.p ∧ x.p < 8 := by
  rw [mem_spots]
  have e0 : ((x.k : Int) = 0) ↔ x.k = 0 := by omega
  have e1 : ((x.k : Int) = 1) ↔ x.k = 1 := by omega
  constructor
  · rintro ⟨y, h1, h2, h3⟩
    refine ⟨?_, h3⟩
    unfold ringAt
    rw [rows_in h1]
    simpa only [ringOf, e0, e1] using h2
  · rintro ⟨h1, h2⟩
    by_cases hg : x.g < T.groups.length
    · have hy := List.getElem?_eq_getElem hg
      refine ⟨_, hy, ?_, h2⟩
      unfold ringAt at h1
      rw [rows_in hy] at h1
      simpa only [ringOf, e0, e1] using h1
    · unfold ringAt at h1
      rw [rows_out (by omega)] at h1
      simp at h1
/-- P8.1, Members: a group's set. -/
def membS (T : Tab) (g : Int) : Nat := SetM.of (rowsAt T g).1 ||| SetM.of (rowsAt T g).2
theorem memb_lt (T : Tab) (g : Int) : membS T g < 256 := Nat.or_lt_two_pow (n := 8) (SetM.of_lt _) (SetM.of_lt _)
theorem memb_test (T : Tab) (g : Int) (k : Nat) : (membS T g).testBit k = decide (((k : Int) ∈ (rowsAt T g).1 ∨ (k : Int) ∈ (rowsAt T g).2) ∧ k < 8) := by
  unfold membS
  rw [Nat.testBit_or, SetM.of_test, SetM.of_test, Bool.eq_iff_iff]
  simp only [Bool.or_eq_true, decide_eq_true_eq]
  constructor
  · rintro (⟨h1, h2⟩ | ⟨h1, h2⟩)
    · exact ⟨.inl h1, h2⟩
    · exact ⟨.inr h1, h2⟩
  · rintro ⟨h1 | h1, h2⟩
    · exact .inl ⟨h1, h2⟩
    · exact .inr ⟨h1, h2⟩
/-- The document's Members. -/
theorem memb_spots (T : Tab) (g : Int) : SetM.of (((spots T).filter fun x => decide ((x.g : Int) = g)).map Spt.p) = membS T g := by
  refine SetM.eq_of (SetM.of_lt _) (memb_lt T g) fun k hk => ?_
  rw [SetM.of_test, memb_test, Bool.eq_iff_iff]
  simp only [decide_eq_true_eq, List.mem_map, List.mem_filter]
  constructor
  · rintro ⟨⟨x, ⟨hx, hg⟩, hp⟩, _⟩
    rw [mem_ringAt] at hx
    obtain ⟨h1, h2, h3⟩ := hx
    refine ⟨?_, hk⟩
    unfold ringAt at h1
    rw [hg] at h1
    have hm : ∀ l : List Int, l[x.i]? = some x.p → (k : Int) ∈ l := fun l h => by rw [← hp]; exact List.mem_of_getElem? h
    split at h1
    · exact .inl (hm _ h1)
    · split at h1
      · exact .inr (hm _ h1)
      · simp at h1
  · rintro ⟨h, _⟩
    refine ⟨?_, hk⟩
    by_cases hg : 0 ≤ g ∧ g < T.groups.length
    · obtain ⟨n, rfl⟩ := Int.eq_ofNat_of_zero_le hg.1
      rcases h with h | h
      · obtain ⟨i, hi⟩ := List.getElem?_of_mem h
        exact ⟨⟨n, 0, i, k⟩, ⟨mem_ringAt.2 ⟨by unfold ringAt; simpa using hi, by simp, by simp; omega⟩, rfl⟩, rfl⟩
      · obtain ⟨i, hi⟩ := List.getElem?_of_mem h
        exact ⟨⟨n, 1, i, k⟩, ⟨mem_ringAt.2 ⟨by unfold ringAt; simpa using hi, by simp, by simp; omega⟩, rfl⟩, rfl⟩
    · rw [rows_out hg] at h
      simp at h
/-- The first index of a row behind 'at' whose phase is in the set; -1 if there is none. -/
def nextIn (l : List Int) (a want : Int) : Int := match (List.range l.length).find? (fun i : Nat => decide (a < (i : Int)) && SetM.has want (l.getD i 0)) with
  | some i => i
  | none => -1
/-- P8.1, Next. -/
def nextS (T : Tab) (g r a want : Int) : Int := nextIn (ringAt T g r) a want
theorem range_hit {c : Nat → Bool} {n i : Nat} (hi : i < n) (hc : c i = true) (hn : ∀ j, j < i → c j = false) : (List.range n).find? c = some i := by
  rw [List.find?_range_eq_some]
  exact ⟨hc, List.mem_range.2 hi, fun j hj => by rw [hn j hj]; rfl⟩
theorem range_miss {c : Nat → Bool} {n : Nat} (hn : ∀ j, j < n → c j = false) : (List.range n).find? c = none := by
  rw [List.find?_eq_none]
  intro x hx
  rw [hn x (List.mem_range.1 hx)]; simp
theorem next_hit {l : List Int} {a want : Int} {i : Nat} (hi : i < l.length) (h1 : a < i) (h2 : SetM.has want (l.getD i 0) = true) (hn : ∀ j, j < i → ¬ (a < (j : Int) ∧ SetM.has want (l.getD j 0) = true)) : nextIn l a want = i := by
  unfold nextIn
  rw [range_hit hi (by rw [h2, decide_eq_true h1]; rfl) (fun j hj => by
    have := hn j hj
    rw [Bool.and_eq_false_iff, decide_eq_false_iff_not, ← Bool.not_eq_true]
    by_cases e : a < (j : Int)
    · exact .inr (fun h => this ⟨e, h⟩)
    · exact .inl e)]
theorem next_miss {l : List Int} {a want : Int} (hn : ∀ j, j < l.length → ¬ (a < (j : Int) ∧ SetM.has want (l.getD j 0) = true)) : nextIn l a want = -1 := by
  unfold nextIn
  rw [range_miss (fun j hj => by
    have := hn j hj
    rw [Bool.and_eq_false_iff, decide_eq_false_iff_not, ← Bool.not_eq_true]
    by_cases e : a < (j : Int)
    · exact .inr (fun h => this ⟨e, h⟩)
    · exact .inl e)]
theorem next_nil (a want : Int) : nextIn [] a want = -1 := rfl
/-- The document's condition of Next. -/
def nextC (g r a want : Int) (x : Spt) : Bool := decide ((x.g : Int) = g) && decide ((x.k : Int) = r) && decide (a < (x.i : Int)) && SetM.has want x.p
theorem nextC_true {g r a want : Int} {x : Spt} : nextC g r a want x = true ↔ (x.g : Int) = g ∧ (x.k : Int) = r ∧ a < (x.i : Int) ∧ SetM.has want x.p = true := by
  unfold nextC
  simp only [Bool.and_eq_true, decide_eq_true_eq, and_assoc]
def nextO : Option Spt → Int
  | some x => x.i
  | none => -1
theorem has_range {s p : Int} (h : SetM.has s p = true) : 0 ≤ p ∧ p < 8 := SetM.list_bd s p ((SetM.mem_list s p).2 h)
/-- The document's Next. -/
theorem next_spots (T : Tab) (g r a want : Int) : nextO ((spots T).find? (nextC g r a want)) = nextS T g r a want := by
  unfold nextS
  cases hf : (spots T).find? (nextC g r a want) with
  | some x =>
    obtain ⟨hx, as, bs, hl, hbef⟩ := List.find?_eq_some_iff_append.1 hf
    obtain ⟨rfl, rfl, h3, h4⟩ := nextC_true.1 hx
    have hm : x ∈ spots T := by rw [hl]; simp
    obtain ⟨hi, h5, h6⟩ := mem_ringAt.1 hm
    have hil := (List.getElem?_eq_some_iff.1 hi).1
    refine (next_hit (i := x.i) hil h3 (by rw [List.getD_eq_getElem?_getD, hi]; exact h4) fun j hj h => ?_).symm
    have hjl : j < (ringAt T x.g x.k).length := by omega
    have hjv := List.getElem?_eq_getElem hjl
    rw [List.getD_eq_getElem?_getD, hjv] at h
    have hr := has_range h.2
    have hy : (⟨x.g, x.k, j, (ringAt T x.g x.k)[j]⟩ : Spt) ∈ spots T := mem_ringAt.2 ⟨hjv, hr⟩
    rw [hl] at hy
    have hs := spots_sorted T
    rw [hl, List.pairwise_append, List.pairwise_cons] at hs
    have hc : nextC x.g x.k a want ⟨x.g, x.k, j, (ringAt T x.g x.k)[j]⟩ = true := nextC_true.2 ⟨rfl, rfl, h.1, h.2⟩
    rcases List.mem_append.1 hy with hy | hy
    · have := hbef _ hy
      rw [hc] at this
      simp at this
    · rcases List.mem_cons.1 hy with hy | hy
      · have : j = x.i := congrArg Spt.i hy
        omega
      · have := hs.2.1.1 _ hy
        unfold Lt at this
        simp only at this
        omega
  | none =>
    refine (next_miss fun j hj h => ?_).symm
    have hn := List.find?_eq_none.1 hf
    have hjv := List.getElem?_eq_getElem hj
    rw [List.getD_eq_getElem?_getD, hjv] at h
    have hr := has_range h.2
    by_cases hg : 0 ≤ g ∧ 0 ≤ r
    · obtain ⟨n, rfl⟩ := Int.eq_ofNat_of_zero_le hg.1
      obtain ⟨k, rfl⟩ := Int.eq_ofNat_of_zero_le hg.2
      exact hn ⟨n, k, j, _⟩ (mem_ringAt.2 ⟨hjv, hr⟩) (nextC_true.2 ⟨rfl, rfl, h.1, h.2⟩)
    · unfold ringAt at hj
      by_cases h0 : 0 ≤ g
      · have hr : r < 0 := by omega
        rw [if_neg (by omega), if_neg (by omega)] at hj
        simp at hj
      · rw [rows_out (by omega)] at hj
        simp at hj
/-- P8.1, Following. -/
def fromG (T : Tab) (g : Int) : Int := if 0 ≤ g ∧ g < T.groups.length then g else T.groups.length - 1
def folC (T : Tab) (g want : Int) (i : Nat) : Bool := decide (bits .and .i64 (membS T ((fromG T g + 1 + i) % T.groups.length) : Nat) want ≠ 0)
def followS (T : Tab) (g want : Int) : Int := match (List.range T.groups.length).find? (folC T g want) with
  | some i => (fromG T g + 1 + i) % T.groups.length
  | none => -1
theorem follow_hit {T : Tab} {g want : Int} {i : Nat} (hi : i < T.groups.length) (hc : folC T g want i = true) (hn : ∀ j, j < i → folC T g want j = false) : followS T g want = (fromG T g + 1 + i) % T.groups.length := by
  unfold followS
  rw [range_hit hi hc hn]
theorem follow_miss {T : Tab} {g want : Int} (hn : ∀ j, j < T.groups.length → folC T g want j = false) : followS T g want = -1 := by
  unfold followS
  rw [range_miss hn]
end Go.Proofs.Ytfnpcfibgabmfaa.PlanM
