/- The contracts of set.Of, of the document's own Of, List, With, Without and First, of the comparison of two lists and of Place. At all integers and slices of integers. -/
import Derived.Test.YtkmebfnhklbhiaaRows
import Derived.Test.YtkmebfnhklbhiaaSetE
import Derived.WalkKit
import Derived.ProofKit
import Derived.IntWalk
import Derived.Lib.Hide
import Derived.LoopTactic
import Derived.Below
import Derived.BigQuiet
import Derived.Deep.QuietTactic
namespace Go.Proofs.Ytkmebfnhklbhiaa.SetR
open Go.ChangeShapes Go.WideShapes Go.ChangeAt Go.RowKit
open Go.Proofs.Ytkmebfnhklbhiaa.SetE (Owns Gave row_mono row_blk map_snoc info3)
set_option linter.unusedVariables false

theorem ret_int {k : IntKind} {a b : Int} (h : a = b) : Ending.returned (.int k a) = .returned (.int k b) := by rw [h]
theorem below_drewN {B : Nat} {a w : World} (h : Below B a w) (n : Nat) : Below B a (w.drewN n) := h.trans ⟨rfl, rfl, rfl, Nat.le_refl _, fun _ _ => rfl⟩

theorem add_zero (x : Addr) : x.add 0 = x := by cases x; simp [Addr.add]
/-- A slice's address under which the integers l lie. -/
def Row (w : World) (a : Option Addr) (l : List Int) : Prop := l.length ≤ maxLen ∧ (l = [] ∨ ∃ x, a = some x ∧ ∀ i, i < l.length → w.cell? (x.add i) = some (.int .i64 (l.getD i 0)))
theorem Row.cells {w : World} {a : Option Addr} {l : List Int} (h : Row w a l) {k : Nat} (hk : k < l.length) : ∃ x, a = some x ∧ ∀ i, i < l.length → w.cell? (x.add i) = some (.int .i64 (l.getD i 0)) := by
  rcases h.2 with rfl | h
  · simp at hk
  · exact h
theorem Row.below {w w' : World} {a : Option Addr} {l : List Int} (h : Row w a l) (hb : Below w.heap.size w w') : Row w' a l := by
  refine ⟨h.1, ?_⟩
  rcases h.2 with h | ⟨x, hx, hc⟩
  · exact .inl h
  · exact .inr ⟨x, hx, fun i hi => (hb.cell (World.block_lt_of_cell? w _ (hc i hi))).trans (hc i hi)⟩
/-- What a function has gathered reads as a row. -/
theorem row_of {B : Nat} {w : World} {v : Value} {l : List Int} (h : Owns B w v l) : ∃ a cap, v = .slice a l.length cap ∧ Row w a l := by
  rcases h.1.2 with ⟨rfl, h0⟩ | ⟨g, cap, cur, rfl, h1, h2, h3, h4, h5, h6⟩
  · have : l = [] := h.2.1 rfl
    subst this
    exact ⟨none, 0, rfl, Nat.zero_le _, .inl rfl⟩
  · refine ⟨_, cap, rfl, by omega, .inr ⟨_, rfl, fun i hi => ?_⟩⟩
    exact h.1.cells (g := g) rfl i (.int .i64 (l.getD i 0)) (by rw [List.getElem?_map, List.getD_eq_getElem?_getD, List.getElem?_eq_getElem hi]; rfl)
theorem owns_below {B : Nat} {w w' : World} {v : Value} {l : List Int} (h : Owns B w v l) (hb : Below w.heap.size w w') : Owns B w' v l :=
  ⟨h.1.kept (row := none) ⟨hb.os, hb.tape, hb.output, hb.size, fun j hj _ => hb.block j hj⟩ (by cases hv : v.ownBlock <;> simp), h.2⟩

theorem take_succ (l : List Int) (k : Nat) (h : k < l.length) : l.take (k + 1) = l.take k ++ [l.getD k 0] := by
  rw [List.take_succ_eq_append_getElem h, List.getD_eq_getElem?_getD, List.getElem?_eq_getElem h]; rfl
theorem with_take (l : List Int) (k : Nat) (h : k < l.length) : SetM.withN (SetM.of (l.take k) : Nat) (l.getD k 0) = SetM.of (l.take (k + 1)) := by
  rw [take_succ l k h, SetM.with_of]

set_option maxHeartbeats 400000 in
theorem of_any (a : Option Addr) (cap : Nat) (l : List Int) (w : World) (h : Row w a l) :
    Calls Try.prog 21 #[.slice a l.length cap] w fun e w' => e = .returned (.int .i64 (SetM.of l : Nat)) ∧ w = w' := by
  have h1 := h.1
  unfold maxLen at h1
  have Hr := Lib.hid h
  clear h
  go_enter Try.func21, Try.ntmps21
  go_wp2
  go_loop [3, 8] (fun t i => ∃ k : Nat, k ≤ l.length ∧ i = .int .i64 k ∧ t = .int .i64 (SetM.of (l.take k) : Nat)) (fun _ i => l.length - (intOf i).toNat)
  case atStart => exact ⟨0, Nat.zero_le _, rfl, rfl⟩
  case round =>
    obtain ⟨k, hk, rfl, rfl⟩ := hrel
    by_cases hlt : k < l.length
    · have HS := with_take l k hlt
      obtain ⟨x, rfl, hc⟩ := Hr.out.cells hlt
      have hcell := hc k hlt
      clear hc
      generalize l.getD k 0 = y at HS hcell
      have HS2 := Lib.hid HS
      clear HS
      go_wp2_with (go_at_call 10; refine (Set.with_any _ _ _).mono ?_; rintro e w' ⟨rfl, rfl⟩)
      go_round
      case rel => exact ⟨k + 1, by omega, by go_num, by rw [HS2.out]⟩
      case measure => simp [intOf]; omega
    · go_wp2
      go_ret
      have : k = l.length := by omega
      subst this
      exact ⟨by rw [List.take_of_length_le (Nat.le_refl _)]; rfl, rfl⟩


/-! ### the document's own answers -/
theorem or_small (m b : Nat) (hm : m < 256) (hb : b < 256) : bits .or .i64 (m : Int) (b : Int) = ((m ||| b : Nat) : Int) :=
  (bits_nat .i64 8 (by decide) (fun n h0 h1 => by rw [IntKind.wrap_i64]; omega) m b hm hb).2
theorem ref_lt (l : List Int) (k : Nat) (h : k ≤ 8) : SetM.refOf l k < 256 := Nat.lt_of_lt_of_le (SetM.refOf_lt l k) (Nat.pow_le_pow_right (n := 2) (by decide) h : 2 ^ k ≤ 2 ^ 8)
theorem ref_or (l : List Int) (k : Nat) (h : k < 8) (hm : (k : Int) ∈ l) : bits .or .i64 (SetM.refOf l k : Nat) ((2 ^ k : Nat) : Int) = (SetM.refOf l (k + 1) : Nat) := by
  rw [or_small _ _ (ref_lt l k (by omega)) (show 2 ^ k < 2 ^ 8 from Nat.pow_lt_pow_right (by decide) h), SetM.refOf_hit l k hm]
theorem wrap_pow (k : Nat) (h : k < 8) : wrap64 ((2 : Int) ^ k) = ((2 ^ k : Nat) : Int) := by
  have h3 : k = 0 ∨ k = 1 ∨ k = 2 ∨ k = 3 ∨ k = 4 ∨ k = 5 ∨ k = 6 ∨ k = 7 := by omega
  rcases h3 with rfl | rfl | rfl | rfl | rfl | rfl | rfl | rfl <;> decide +kernel
theorem ref_or2 (l : List Int) (k : Nat) (h : k < 8) (hm : (k : Int) ∈ l) : bits .or .i64 (SetM.refOf l k : Nat) (wrap64 ((2 : Int) ^ k)) = (SetM.refOf l (k + 1) : Nat) := by
  rw [wrap_pow k h, ref_or l k h hm]
/-- The first place of a number that is there. -/
theorem first_at {l : List Int} {p : Int} (h : p ∈ l) : ∃ j, j < l.length ∧ l.getD j 0 = p ∧ ∀ i, i < j → l.getD i 0 ≠ p := by
  induction l with
  | nil => simp at h
  | cons y l ih =>
    by_cases e : y = p
    · exact ⟨0, by simp, by simpa using e, fun i hi => by omega⟩
    · obtain ⟨j, h1, h2, h3⟩ := ih (by simpa [Ne.symm e] using h)
      refine ⟨j + 1, by simp; omega, by simpa using h2, fun i hi => ?_⟩
      cases i with
      | zero => simpa using e
      | succ i => simpa using h3 i (by omega)

set_option maxHeartbeats 1000000 in
theorem rof_any (a : Option Addr) (cap : Nat) (l : List Int) (w : World) (h : Row w a l) :
    Calls Try.prog 22 #[.slice a l.length cap] w fun e w' => e = .returned (.int .i64 (SetM.of l : Nat)) ∧ w = w' := by
  have h1 := h.1
  unfold maxLen at h1
  have Hr := Lib.hid h
  clear h
  go_enter Try.func22, Try.ntmps22
  go_wp2
  go_loop [3, 4] (fun t p => ∃ k : Nat, k ≤ 8 ∧ p = .int .i64 k ∧ t = .int .i64 (SetM.refOf l k : Nat)) (fun _ p => 8 - (intOf p).toNat)
  case atStart => exact ⟨0, Nat.zero_le _, rfl, rfl⟩
  case round =>
    obtain ⟨k, hk, rfl, rfl⟩ := hrel
    by_cases hlt : k < 8
    · by_cases hm : (k : Int) ∈ l
      · have HS := Lib.hid (ref_or2 l k hlt hm)
        obtain ⟨j, hj, hjk, hjn⟩ := first_at hm
        have Hj := Lib.hid hjk
        have Hn := Lib.hid hjn
        clear hjk hjn hm
        go_wp2
        go_loop [3, 5] (fun t i => ∃ m : Nat, m ≤ j ∧ i = .int .i64 m ∧ t = .int .i64 (SetM.refOf l k : Nat)) (fun _ i => j - (intOf i).toNat)
        case atStart => exact ⟨0, Nat.zero_le _, rfl, rfl⟩
        case round =>
          obtain ⟨m, hm, rfl, rfl⟩ := hrel
          have hml : m < l.length := by omega
          obtain ⟨x, rfl, hc⟩ := Hr.out.cells hml
          have hcell := hc m hml
          clear hc
          by_cases hmj : m < j
          · have hne := Hn.out m hmj
            generalize l.getD m 0 = y at hne hcell
            go_wp2
            go_round
            case rel => exact ⟨m + 1, by omega, by go_num, rfl⟩
            case measure => simp [intOf]; omega
          · obtain rfl : m = j := by omega
            rw [Hj.out] at hcell
            go_wp2
            go_round
            case rel => exact ⟨k + 1, by omega, by go_num, by rw [HS.out]⟩
            case measure => simp [intOf]; omega
      · have HS := Lib.hid (SetM.refOf_miss l k hm)
        have Hm : Hid (∀ i, i < l.length → l.getD i 0 ≠ (k : Int)) := Lib.hid (fun i hi e => hm (by rw [← e, List.getD_eq_getElem?_getD, List.getElem?_eq_getElem hi]; exact List.getElem_mem hi))
        clear hm
        go_wp2
        go_loop [3, 5] (fun t i => ∃ m : Nat, m ≤ l.length ∧ i = .int .i64 m ∧ t = .int .i64 (SetM.refOf l k : Nat)) (fun _ i => l.length - (intOf i).toNat)
        case atStart => exact ⟨0, Nat.zero_le _, rfl, rfl⟩
        case round =>
          obtain ⟨m, hm, rfl, rfl⟩ := hrel
          by_cases hml : m < l.length
          · obtain ⟨x, rfl, hc⟩ := Hr.out.cells hml
            have hcell := hc m hml
            clear hc
            have hne := Hm.out m hml
            generalize l.getD m 0 = y at hne hcell
            go_wp2
            go_round
            case rel => exact ⟨m + 1, by omega, by go_num, rfl⟩
            case measure => simp [intOf]; omega
          · go_wp2
            go_round
            case rel => exact ⟨k + 1, by omega, by go_num, by rw [HS.out]⟩
            case measure => simp [intOf]; omega
    · have HS := Lib.hid (SetM.refOf_eq l)
      obtain rfl : k = 8 := by omega
      go_wp2
      go_ret
      exact ⟨ret_int (by rw [HS.out]), rfl⟩

theorem list_snoc {B : Nat} {l : List Int} {x : Int} {v' : Value} {w1 : World} (h : w1.ownsRow B 3 1 v' (l.length + 1) (l.map (Value.int .i64) ++ [.int .i64 x])) (hn : ¬ v' = .slice none 0 0) : Owns B w1 v' (l ++ [x]) := by
  refine ⟨?_, ?_⟩
  · rw [List.length_append, ← map_snoc]; exact h
  · simp [hn]

set_option maxHeartbeats 1000000 in
theorem rlist_any (s : Int) (w : World) : Calls Try.prog 15 #[.int .i64 s] w (Gave w (SetM.list s)) := by
  obtain ⟨i0, hi, hz0, hz1, hz2⟩ := info_parts info3
  go_enter Try.func15, Try.ntmps15
  go_wp2
  go_loopw [3, 4] (fun v p wr => ∃ k : Nat, k ≤ 8 ∧ p = .int .i64 k ∧ Owns w.heap.size wr v (SetM.upto s k) ∧ Below w.heap.size w wr) (fun _ p _ => 8 - (intOf p).toNat)
  case atStart => exact ⟨0, Nat.zero_le _, rfl, ⟨World.ownsRow_nil _ _ _ _, by simp [SetM.upto_zero]⟩, Below.refl _ _⟩
  case round =>
    obtain ⟨k, hk, rfl, ⟨hown, hnil⟩, hbel⟩ := hrel
    have hB := hbel.size
    have Hn := Lib.hid hnil
    clear hnil
    by_cases hlt : k < 8
    · have hul := SetM.upto_len s k
      by_cases hh : SetM.has s k = true
      · have Hs := Lib.hid (SetM.upto_hit s k hh)
        go_wp2_with (first
          | (go_at_call 9; refine (Set.rhas_any _ _ _).mono ?_; rintro e w' ⟨rfl, rfl⟩; rw [hh])
          | (at_builtin; refine wpList_append_own _ rfl _ _ 25 rfl w.heap.size 3 i0 (.int .i64 0) 1 8 Try.underlying25 hi hz0 hz1 hz2 rfl (by decide) _ _ _ rfl (hown.alloc _) ⟨wr.heap.size, 0, none⟩ 1 1 [.int .i64 (k : Int)] rfl rfl ?c1 ?c2 ?c3 ?c4 ?c5 ?_))
        case c1 =>
          intro j u hj
          match j, hj with
          | 0, hj => simp at hj; subst hj; simp [Addr.add]
        case c2 => intro u hu; simp at hu; subst hu; rfl
        case c3 => unfold maxLen; omega
        case c4 => omega
        case c5 => simp; omega
        intro v' w1 hown' hgrow hnil'
        have hbel' : Below w.heap.size w w1 := (hbel.alloc (by omega) _).grown hgrow (by simp; omega) fun j hj => row_blk hown j hj
        have Hown := Lib.hid (list_snoc hown' hnil')
        clear hown' hgrow hown hnil'
        go_wp2
        go_roundw
        case rel => exact ⟨k + 1, by omega, by go_num, by rw [Hs.out]; exact Hown.out, hbel'⟩
        case measure => simp [intOf]; omega
      · have hh' : SetM.has s k = false := by simpa using hh
        have Hs := Lib.hid (SetM.upto_miss s k hh')
        clear hh
        go_wp2_with (go_at_call 9; refine (Set.rhas_any _ _ _).mono ?_; rintro e w' ⟨rfl, rfl⟩; rw [hh'])
        go_roundw
        case rel => exact ⟨k + 1, by omega, by go_num, by rw [Hs.out]; exact ⟨hown, Hn.out⟩, hbel⟩
        case measure => simp [intOf]; omega
    · obtain rfl : k = 8 := by omega
      go_wp2
      go_ret
      exact ⟨_, rfl, ⟨hown, Hn.out⟩, hbel⟩

set_option maxHeartbeats 1000000 in
theorem rwith_any (s p : Int) (w : World) : Calls Try.prog 11 #[.int .i64 s, .int .i64 p] w fun e w' => e = .returned (.int .i64 (SetM.withN s p : Nat)) ∧ Below w.heap.size w w' := by
  obtain ⟨i0, hi, hz0, hz1, hz2⟩ := info_parts info3
  have hl8 := SetM.list_len s
  have HS := Lib.hid (SetM.of_with s p)
  go_enter Try.func11, Try.ntmps11
  go_wp2_with fail
  refine (rlist_any _ _).mono ?_
  rintro e w1 ⟨v, rfl, ⟨hown, hnil⟩, hbel⟩
  have hB := hbel.size
  clear hnil
  go_wp2_with (at_builtin; refine wpList_append_own _ rfl _ _ 25 rfl w.heap.size 3 i0 (.int .i64 0) 1 8 Try.underlying25 hi hz0 hz1 hz2 rfl (by decide) _ _ _ rfl (hown.alloc _) ⟨w1.heap.size, 0, none⟩ 1 1 [.int .i64 p] rfl rfl ?c1 ?c2 ?c3 ?c4 ?c5 ?_)
  case c1 =>
    intro j u hj
    match j, hj with
    | 0, hj => simp at hj; subst hj; simp [Addr.add]
  case c2 => intro u hu; simp at hu; subst hu; rfl
  case c3 => unfold maxLen; omega
  case c4 => omega
  case c5 => simp; omega
  intro v' w2 hown' hgrow hnil'
  have hbel' : Below w.heap.size w w2 := (hbel.alloc (by omega) _).grown hgrow (by simp; omega) fun j hj => row_blk hown j hj
  obtain ⟨L, hL⟩ : ∃ L, SetM.list s ++ [p] = L := ⟨_, rfl⟩
  have hrow' := list_snoc hown' hnil'
  rw [hL] at HS hrow'
  obtain ⟨a, cap, rfl, hrow⟩ := row_of hrow'
  have Hrow := Lib.hid hrow
  clear hown' hgrow hown hnil' hrow hrow' hL
  go_wp2_with (go_at_call 22; refine (rof_any _ _ L _ Hrow.out).mono ?_; rintro e w' ⟨rfl, rfl⟩)
  go_ret
  exact ⟨ret_int (by rw [HS.out]), hbel'⟩


theorem filter_hit (L : List Int) (p : Int) (k : Nat) (h : k < L.length) (hq : L.getD k 0 ≠ p) : (L.take (k + 1)).filter (fun q => q != p) = (L.take k).filter (fun q => q != p) ++ [L.getD k 0] := by
  rw [take_succ L k h, List.filter_append]; simp only [List.filter_cons, List.filter_nil, bne_iff_ne, ne_eq, hq, not_false_eq_true, if_true]
theorem filter_miss (L : List Int) (p : Int) (k : Nat) (h : k < L.length) (hq : L.getD k 0 = p) : (L.take (k + 1)).filter (fun q => q != p) = (L.take k).filter (fun q => q != p) := by
  rw [take_succ L k h, List.filter_append, hq]; simp
theorem filter_len (L : List Int) (p : Int) (k : Nat) : ((L.take k).filter (fun q => q != p)).length ≤ k := by
  refine Nat.le_trans (List.length_filter_le _ _) ?_; rw [List.length_take]; omega

set_option maxHeartbeats 1000000 in
theorem rwithout_any (s p : Int) (w : World) : Calls Try.prog 13 #[.int .i64 s, .int .i64 p] w fun e w' => e = .returned (.int .i64 (SetM.withoutN s p : Nat)) ∧ Below w.heap.size w w' := by
  obtain ⟨i0, hi, hz0, hz1, hz2⟩ := info_parts info3
  have hl8 := SetM.list_len s
  have hs := SetM.of_without s p
  go_enter Try.func13, Try.ntmps13
  go_wp2_with fail
  refine (rlist_any _ _).mono ?_
  rintro e w1 ⟨v, rfl, hO, hbel⟩
  obtain ⟨a, cap, rfl, hrow⟩ := row_of hO
  have hB := hbel.size
  clear hO
  generalize SetM.list s = L at hl8 hs hrow
  have HS := Lib.hid hs
  have Hrow := Lib.hid hrow
  clear hs hrow
  go_wp2_with fail
  go_loopw [5, 11] (fun v i wr => ∃ k : Nat, k ≤ L.length ∧ i = .int .i64 k ∧ Owns w1.heap.size wr v ((L.take k).filter (fun q => q != p)) ∧ Below w1.heap.size w1 wr) (fun _ i _ => L.length - (intOf i).toNat)
  case atStart => exact ⟨0, Nat.zero_le _, rfl, ⟨World.ownsRow_nil _ _ _ _, by simp⟩, Below.refl _ _⟩
  case round =>
    obtain ⟨k, hk, rfl, ⟨hown, hnil⟩, hb2⟩ := hrel
    have hB2 := hb2.size
    have Hn := Lib.hid hnil
    clear hnil
    by_cases hlt : k < L.length
    · obtain ⟨x, rfl, hc⟩ := (Hrow.out.below hb2).cells hlt
      have hcell := hc k hlt
      have hfl := filter_len L p k
      have hm := filter_miss L p k hlt
      have hh := filter_hit L p k hlt
      clear hc
      generalize L.getD k 0 = y at hcell hm hh
      by_cases hq : y = p
      · subst hq
        have Hm := Lib.hid (hm rfl)
        clear hm hh
        go_wp2
        go_roundw
        case rel => exact ⟨k + 1, by omega, by go_num, by rw [Hm.out]; exact ⟨hown, Hn.out⟩, hb2⟩
        case measure => simp [intOf]; omega
      · have Hh := Lib.hid (hh hq)
        clear hm hh
        generalize (L.take k).filter (fun q => q != p) = M at hown hfl Hn Hh
        go_wp2_with (at_builtin; refine wpList_append_own _ rfl _ _ 25 rfl w1.heap.size 3 i0 (.int .i64 0) 1 8 Try.underlying25 hi hz0 hz1 hz2 rfl (by decide) _ _ _ rfl (hown.alloc _) ⟨wr.heap.size, 0, none⟩ 1 1 [.int .i64 y] rfl rfl ?c1 ?c2 ?c3 ?c4 ?c5 ?_)
        case c1 =>
          intro j u hj
          match j, hj with
          | 0, hj => simp at hj; subst hj; simp [Addr.add]
        case c2 => intro u hu; simp at hu; subst hu; rfl
        case c3 => unfold maxLen; omega
        case c4 => omega
        case c5 => simp; omega
        intro v' w2 hown' hgrow hnil'
        have hbel' : Below w1.heap.size w1 w2 := (hb2.alloc (by omega) _).grown hgrow (by simp; omega) fun j hj => row_blk hown j hj
        have Hown := Lib.hid (list_snoc hown' hnil')
        clear hown' hgrow hown hnil'
        go_wp2
        go_roundw
        case rel => exact ⟨k + 1, by omega, by go_num, by rw [Hh.out]; exact Hown.out, hbel'⟩
        case measure => simp [intOf]; omega
    · obtain rfl : k = L.length := by omega
      rw [List.take_of_length_le (Nat.le_refl _)] at hown Hn
      generalize L.filter (fun q => q != p) = M at hown Hn HS
      obtain ⟨a2, cap2, rfl, hrow2⟩ := row_of ⟨hown, Hn.out⟩
      have Hrow2 := Lib.hid hrow2
      clear hown Hn hrow2
      go_wp2_with (go_at_call 22; refine (rof_any _ _ M _ Hrow2.out).mono ?_; rintro e w' ⟨rfl, rfl⟩)
      go_ret
      exact ⟨ret_int (by rw [HS.out]), hbel.trans (hb2.mono hB)⟩

set_option maxHeartbeats 400000 in
theorem rfirst_any (s : Int) (w : World) : Calls Try.prog 17 #[.int .i64 s] w fun e w' => e = .returned (.int .i64 (SetM.first s)) ∧ Below w.heap.size w w' := by
  have hs : SetM.first s = (SetM.list s).headD (-1) := rfl
  go_enter Try.func17, Try.ntmps17
  go_wp2_with fail
  refine (rlist_any _ _).mono ?_
  rintro e w1 ⟨v, rfl, hO, hbel⟩
  obtain ⟨a, cap, rfl, hrow⟩ := row_of hO
  clear hO
  generalize SetM.list s = L at hs hrow
  have HS := Lib.hid hs
  clear hs
  have h1 := hrow.1
  unfold maxLen at h1
  cases L with
  | nil =>
    clear hrow h1
    go_wp2
    go_ret
    exact ⟨ret_int (by rw [HS.out]; rfl), hbel⟩
  | cons y L =>
    obtain ⟨x, rfl, hc⟩ := hrow.cells (k := 0) (by simp)
    have hcell := hc 0 (by simp)
    rw [add_zero, List.getD_cons_zero] at hcell
    clear hc hrow
    simp only [List.length_cons] at h1
    go_wp2
    go_ret
    exact ⟨ret_int (by rw [HS.out]; rfl), hbel⟩


set_option maxHeartbeats 1000000 in
/-- Two slices that hold the same integers. -/
theorem same_any (a b : Option Addr) (cap cap' : Nat) (l : List Int) (w : World) (ha : Row w a l) (hb : Row w b l) :
    Calls Try.prog 18 #[.slice a l.length cap, .slice b l.length cap'] w fun e w' => e = .returned (.bool true) ∧ Below w.heap.size w w' := by
  have h1 := ha.1
  unfold maxLen at h1
  have Ha := Lib.hid ha
  have Hb := Lib.hid hb
  clear ha hb
  go_enter Try.func18, Try.ntmps18
  go_wp2
  go_loopw [5] (fun i wr => ∃ k : Nat, k ≤ l.length ∧ i = .int .i64 k ∧ Below w.heap.size w wr) (fun i _ => l.length - (intOf i).toNat)
  case atStart => exact ⟨0, Nat.zero_le _, rfl, Below.refl _ _⟩
  case round =>
    obtain ⟨k, hk, rfl, hbel⟩ := hrel
    by_cases hlt : k < l.length
    · obtain ⟨x, rfl, hc⟩ := (Ha.out.below hbel).cells hlt
      obtain ⟨y, rfl, hd⟩ := (Hb.out.below hbel).cells hlt
      have hcell := hc k hlt
      have hdell := hd k hlt
      clear hc hd
      generalize l.getD k 0 = z at hcell hdell
      go_wp2
      go_quiet (fail)
      go_wp2
      go_roundw
      case rel => exact ⟨k + 1, by omega, by go_num, below_drewN hbel _⟩
      case measure => simp [intOf]; omega
    · go_wp2
      go_ret
      exact ⟨rfl, hbel⟩

set_option maxHeartbeats 400000 in
/-- A number as one from 0 to n - 1. -/
theorem place_any (v n : Int) (w : World) (h : 0 < n) (h' : n ≤ 9223372036854775807) :
    Calls Try.prog 23 #[.int .i64 v, .int .i64 n] w fun e w' => e = .returned (.int .i64 (v % n)) ∧ w = w' := by
  have hm := Int.emod_nonneg v (show n ≠ 0 by omega)
  have hm2 := Int.emod_lt_of_pos v h
  have ht : 0 ≤ v.tmod n ∧ v % n = v.tmod n ∨ v.tmod n < 0 ∧ v % n = v.tmod n + n := by
    have h1 := Int.tmod_eq_emod (a := v) (b := n)
    split at h1 <;> omega
  have hb : -9223372036854775808 ≤ v.tmod n ∧ v.tmod n ≤ 9223372036854775807 := by omega
  obtain ⟨hb1, hb2⟩ := hb
  have hn0 : n ≠ 0 := by omega
  rcases ht with ⟨ht, he⟩ | ⟨ht, he⟩
  · have He := Lib.hid he
    clear he hm hm2
    go_enter Try.func23, Try.ntmps23
    go_wp2
    go_ret
    exact ⟨ret_int (by rw [He.out]), rfl⟩
  · have He := Lib.hid he
    clear he hm hm2
    go_enter Try.func23, Try.ntmps23
    go_wp2
    go_ret
    exact ⟨ret_int (by rw [He.out]), rfl⟩


/-! ### the chapter's examples -/
theorem ex1 : SetM.list 5 = [0, 2] := by decide +kernel
theorem ex2 : SetM.of [0, 2] = 5 := by decide +kernel
theorem ex3 : SetM.first 4 = 2 := by decide +kernel
theorem bcell {W w1 : World} (hb : Below W.heap.size W w1) : (∀ b o, b < W.heap.size → w1.cell? ⟨b, o, none⟩ = W.cell? ⟨b, o, none⟩) ∧ (∀ b o, b < W.heap.size → w1.frozen? ⟨b, o, none⟩ = W.frozen? ⟨b, o, none⟩) :=
  ⟨fun b o h => hb.cell (p := ⟨b, o, none⟩) h, fun b o h => hb.frozen (p := ⟨b, o, none⟩) h⟩

set_option maxHeartbeats 1000000 in
theorem awake_any (w : World) : Calls Try.prog 20 #[] w fun e w' => e = .returned (.bool true) ∧ Below w.heap.size w w' := by
  go_enter Try.func20, Try.ntmps20
  go_wp2_with fail
  refine (SetE.gather_in _ _).mono ?_
  rintro e w1 ⟨v, rfl, hO, hbel⟩
  rw [ex1] at hO
  obtain ⟨a, cap, rfl, hrow⟩ := row_of hO
  clear hO
  obtain ⟨x, rfl, hc⟩ := hrow.cells (k := 0) (by simp)
  have hc0 := hc 0 (by simp)
  have hc1 := hc 1 (by simp)
  rw [add_zero] at hc0
  simp only [List.getD_cons_zero, List.getD_cons_succ] at hc0 hc1
  have hd0 := (((Below.refl w1.heap.size w1).alloc (Nat.le_refl _) (.cells #[.int .i64 0, .int .i64 2] 3)).cell (World.block_lt_of_cell? w1 _ hc0)).trans hc0
  have hd1 := (((Below.refl w1.heap.size w1).alloc (Nat.le_refl _) (.cells #[.int .i64 0, .int .i64 2] 3)).cell (World.block_lt_of_cell? w1 _ hc1)).trans hc1
  simp only [Addr.add, Nat.one_ne_zero, if_false] at hd1
  clear hc hrow hc0 hc1
  simp only [List.length_cons, List.length_nil]
  go_wp2_with fail
  refine (of_any _ _ [0, 2] _ ⟨by unfold maxLen; simp, .inr ⟨_, rfl, ?_⟩⟩).mono ?_
  · intro i hi
    match i, hi with
    | 0, _ => (simp [Addr.add]; done)
    | 1, _ => (simp [Addr.add]; done)
  · rintro e w' ⟨rfl, rfl⟩
    rw [ex2]
    go_wp2_with fail
    refine (SetE.first_in _ _).mono ?_
    rintro e w2 ⟨rfl, hb2⟩
    rw [ex3]
    go_wp2
    go_ret
    exact ⟨rfl, (hbel.alloc hbel.size _).trans (hb2.mono (by have := hbel.size; simp; omega))⟩

end Go.Proofs.Ytkmebfnhklbhiaa.SetR
