/- What a call has made of bytes of its own: copied, appended to, a byte written; two rows compared; a number as one from 0 to n - 1. -/
import Derived.Test.YtfmilmgnepmdoaaCrcA
import Derived.Laws.AppendOwnNone
import Derived.OwnWalk
namespace Go.Proofs.Ytfmilmgnepmdoaa.CrcB
open Go.ChangeShapes Go.WideShapes Go.ChangeAt Go.RowKit
open CrcM Crc
set_option linter.unusedVariables false

def vals (l : List Nat) : List Value := l.map fun n : Nat => .int .u8 (n : Int)
theorem vals_len (l : List Nat) : (vals l).length = l.length := List.length_map ..
theorem vals_at (l : List Nat) (i : Nat) (h : i < l.length) : (vals l)[i]? = some (.int .u8 (l.getD i 0 : Nat)) := by
  unfold vals
  rw [List.getElem?_map, List.getD_eq_getElem?_getD, List.getElem?_eq_getElem h]; rfl
/-- The value v is a slice of the call's own that holds the bytes l. -/
def Own (B : Nat) (w : World) (v : Value) (l : List Nat) : Prop := w.ownsRow B 5 1 v l.length (vals l)
theorem info5 : (Try.prog.info? 5).map (fun i => (i.zero, i.size, i.bytes)) = some (some (.int .u8 0), 1, 1) := by kernel_rfl

theorem own_row {B : Nat} {w : World} {v : Value} {l : List Nat} (h : Own B w v l) (hl : ∀ x ∈ l, x < 256) : ∃ a cap, v = .slice a l.length cap ∧ Row w a l := by
  rcases h.2 with ⟨rfl, h0⟩ | ⟨g, cap, cur, rfl, h1, h2, h3, h4, h5, h6⟩
  · have : l = [] := List.length_eq_zero_iff.1 h0
    subst this
    exact ⟨none, 0, rfl, Nat.zero_le _, hl, .inl rfl⟩
  · refine ⟨_, cap, rfl, by omega, hl, .inr ⟨_, rfl, fun i hi => ?_⟩⟩
    exact h.cells (g := g) rfl i _ (vals_at l i hi)
theorem own_nil (B : Nat) (w : World) : Own B w (.slice none 0 0) [] := World.ownsRow_nil _ _ _ _
theorem own_below {B : Nat} {w w' : World} {v : Value} {l : List Nat} (h : Own B w v l) (hb : Below w.heap.size w w') : Own B w' v l :=
  h.kept (row := none) ⟨hb.os, hb.tape, hb.output, hb.size, fun j hj _ => hb.block j hj⟩ (by cases hv : v.ownBlock <;> simp)
theorem own_lt {B : Nat} {w : World} {v : Value} {l : List Nat} (h : Own B w v l) : ∀ k, v.ownBlock = some k → B ≤ k := fun k hk => (h.lt k hk).1

section
variable {ops : Array Oper} {rest : List Oper} {o : Oper} {a : Act} {w : World} {Q : Exit → Act → World → Prop}
theorem wpList_more (hgd : o.guard = none) (s x : Operand) (ho : o.op = .call { callee := .builtin .append, args := #[s, x], argTypes := #[23, 23] })
    (B : Nat) (v : Value) (l : List Nat) (hs : a.eval s = v) (hown : Own B w v l) (ad : Addr) (cap : Nat) (m : List Nat) (hx : a.eval x = .slice (some ad) m.length cap) (hr : Row w (some ad) m)
    (hB : B ≤ w.heap.size) (hlen : l.length + m.length ≤ 1000) (h : ∀ v' w', Own B w' v' (l ++ m) → Below B w w' → wpList Try.prog ops Q rest (a.put o.dst v') w') : wpList Try.prog ops Q (o :: rest) a w := by
  obtain ⟨i0, hi, hz0, hz1, hz2⟩ := info_parts info5
  refine wpList_append_own w hgd s x 23 ho B 5 i0 (.int .u8 0) 1 1 Try.underlying23 hi hz0 hz1 hz2 rfl (by decide) v l.length (vals l) hs hown ad m.length cap (vals m) hx (by rw [vals_len, Nat.mul_one]) ?_ ?_ (by unfold maxLen; omega) (by omega) hB ?_
  · intro j u hj
    have hjl : j < m.length := by rw [← vals_len m]; exact (List.getElem?_eq_some_iff.1 hj).1
    rw [vals_at m j hjl] at hj
    obtain ⟨y, hy, hc⟩ := hr.cells hjl
    cases hy
    rw [hc j hjl]; exact hj
  · intro u hu
    obtain ⟨n, _, rfl⟩ := List.mem_map.1 hu
    rfl
  · intro v' w' hown' hg _
    refine h v' w' ?_ ((Below.refl _ _).grown hg hB (own_lt hown))
    unfold Own
    rw [List.length_append, show vals (l ++ m) = vals l ++ vals m from List.map_append ..]
    exact hown'
theorem wpList_copy (hgd : o.guard = none) (s x : Operand) (ho : o.op = .call { callee := .builtin .append, args := #[s, x], argTypes := #[23, 23] })
    (hs : a.eval s = .slice none 0 0) (ad : Option Addr) (cap : Nat) (l : List Nat) (hx : a.eval x = .slice ad l.length cap) (hr : Row w ad l) (hnil : ad = none → cap = 0) (hlen : l.length ≤ 1000)
    (h : ∀ v' w', Own w.heap.size w' v' l → Below w.heap.size w w' → wpList Try.prog ops Q rest (a.put o.dst v') w') : wpList Try.prog ops Q (o :: rest) a w := by
  cases ad with
  | none =>
    have hl : l = [] := by
      rcases hr.2.2 with h | ⟨x, hx, _⟩
      · exact h
      · cases hx
    subst hl
    obtain ⟨i0, hi, hz0, hz1, hz2⟩ := info_parts info5
    rw [hnil rfl] at hx
    exact wpList_append_own_none hgd s x 23 ho w.heap.size 5 i0 1 Try.underlying23 hi _ 0 [] hs (World.ownsRow_nil _ _ _ _) hx (h _ _ (own_nil _ _) (Below.refl _ _))
  | some ad => exact wpList_more hgd s x ho w.heap.size _ [] hs (own_nil _ _) ad cap l hx hr (Nat.le_refl _) (by simp; omega) h
end

/-- A slice that is not empty lies in a block of the call's own. -/
theorem own_at {B : Nat} {w : World} {v : Value} {l : List Nat} (h : Own B w v l) (hl : 0 < l.length) :
    ∃ g cap, v = .slice (some ⟨g, 0, none⟩) l.length cap ∧ B ≤ g ∧ (∀ i, w.frozen? ⟨g, i, none⟩ = false) ∧ ∀ i, i < l.length → w.cell? ⟨g, i, none⟩ = some (.int .u8 (l.getD i 0 : Nat)) := by
  rcases h.2 with ⟨rfl, h0⟩ | ⟨g, cap, cur, rfl, h1, h2, h3, h4, h5, h6⟩
  · omega
  · refine ⟨g, cap, rfl, h1, fun i => by simp [World.frozen?, h2], fun i hi => ?_⟩
    have h7 := vals_at l i hi
    rw [← h6, Nat.mul_one, List.getElem?_take_of_lt hi] at h7
    rw [cell_of_row w g i cur _ (0, 0) h2, ← Array.getElem?_toList]
    exact h7
theorem own_set {B : Nat} {w : World} {g cap : Nat} {l : List Nat} (h : Own B w (.slice (some ⟨g, 0, none⟩) l.length cap) l) (i y : Nat) (hi : i < l.length) :
    Own B (w.setCell ⟨g, i, none⟩ (.int .u8 (y : Int))) (.slice (some ⟨g, 0, none⟩) l.length cap) (l.set i y) := by
  rcases h.2 with ⟨h0, _⟩ | ⟨g', cap', cur, e, h1, h2, h3, h4, h5, h6⟩
  · cases h0
  · cases e
    rw [setCell_eq_setRow w g i cur _ (0, 0) _ h2]
    refine ⟨by rw [vals_len, Nat.mul_one], .inr ⟨g, cap, _, by rw [List.length_set], h1, setRow_heap w g cur _ _ _ h2, by rw [List.length_set]; exact h3, h4, by rw [Array.size_setIfInBounds]; exact h5, ?_⟩⟩
    rw [Array.toList_setIfInBounds, List.length_set, List.take_set, h6]
    exact (List.map_set ..).symm
theorem own_turn {B : Nat} {w : World} {g n cap : Nat} {l : List Nat} (h : Own B w (.slice (some ⟨g, 0, none⟩) n cap) l) (hn : l.length = n) (q y : Nat) (hq : q / 8 < n) (hy : l.getD (q / 8) 0 = y) :
    Own B (w.setCell ⟨g, q / 8, none⟩ (.int .u8 ((y ^^^ 2 ^ (q % 8) : Nat) : Int))) (.slice (some ⟨g, 0, none⟩) n cap) (turn l q) := by
  subst hn hy
  exact own_set h _ _ hq
theorem own_set_len {B : Nat} {w : World} {g n cap : Nat} {l : List Nat} (h : Own B w (.slice (some ⟨g, 0, none⟩) n cap) l) (hn : l.length = n) (i y : Nat) (hi : i < n) :
    Own B (w.setCell ⟨g, i, none⟩ (.int .u8 (y : Int))) (.slice (some ⟨g, 0, none⟩) n cap) (l.set i y) := by
  subst hn
  exact own_set h _ _ hi
theorem turn_bits (y q : Nat) (hy : y < 256) : bits .xor .u8 (y : Int) (2 ^ (q % 8) % 256) = ((y ^^^ 2 ^ (q % 8) : Nat) : Int) := by
  have h1 : 2 ^ (q % 8) < 256 := Nat.pow_lt_pow_right (n := 8) (by decide) (Nat.mod_lt _ (by decide))
  have h2 : ((2 ^ (q % 8) : Nat) : Int) = (2 : Int) ^ (q % 8) := Int.natCast_pow 2 _
  have h3 : (2 : Int) ^ (q % 8) % 256 = ((2 ^ (q % 8) : Nat) : Int) := by
    rw [← h2]
    generalize 2 ^ (q % 8) = z at h1 ⊢
    omega
  rw [h3]
  exact u8_xor_nat y _ hy h1
theorem below_set {B : Nat} {a w : World} {g : Nat} (h : Below B a w) (hB : B ≤ g) (i : Nat) (v : Value) : Below B a (w.setCell ⟨g, i, none⟩ v) := h.setCell hB v

theorem below_drewN {B : Nat} {a w : World} (h : Below B a w) (n : Nat) : Below B a (w.drewN n) := h.trans ⟨rfl, rfl, rfl, Nat.le_refl _, fun _ _ => rfl⟩

set_option maxHeartbeats 1000000 in
/-- Two rows of one length that differ. -/
theorem differ_any (a b : Option Addr) (cap cap' : Nat) (l m : List Nat) (w : World) (ha : Row w a l) (hb : Row w b m) (hlm : m.length = l.length) (hne : l ≠ m) :
    Calls Try.prog 13 #[.slice a l.length cap, .slice b m.length cap'] w fun e w' => e = .returned (.bool false) ∧ Below w.heap.size w w' := by
  have h1 := ha.1
  unfold maxLen at h1
  obtain ⟨j, hj, hjn, hjb⟩ : ∃ j, j < l.length ∧ l.getD j 0 ≠ m.getD j 0 ∧ ∀ i, i < j → l.getD i 0 = m.getD i 0 := by
    clear ha hb h1
    induction l generalizing m with
    | nil => exact absurd (List.length_eq_zero_iff.1 hlm).symm hne
    | cons x l ih =>
      cases m with
      | nil => simp at hlm
      | cons y m =>
        by_cases e : x = y
        · subst e
          obtain ⟨j, h1, h2, h3⟩ := ih m (by simpa using hlm) (fun e => hne (by rw [e]))
          refine ⟨j + 1, by simp; omega, by simpa using h2, fun i hi => ?_⟩
          cases i with
          | zero => rfl
          | succ i => simpa using h3 i (by omega)
        · exact ⟨0, by simp, by simpa using e, fun i hi => by omega⟩
  have Ha := Lib.hid ha
  have Hb := Lib.hid hb
  have Hj := Lib.hid hjn
  have Hi := Lib.hid hjb
  rw [hlm]
  have Hlm := Lib.hid hlm
  clear ha hb hjn hjb hne hlm
  go_enter Try.func13, Try.ntmps13
  go_wp2
  go_loopw [5] (fun i wr => ∃ k : Nat, k ≤ j ∧ i = .int .i64 k ∧ Below w.heap.size w wr) (fun i _ => j - (intOf i).toNat)
  case atStart => exact ⟨0, Nat.zero_le _, rfl, Below.refl _ _⟩
  case round =>
    obtain ⟨k, hk, rfl, hbel⟩ := hrel
    have hkl : k < l.length := by omega
    obtain ⟨x, rfl, hc⟩ := (Ha.out.below hbel).cells hkl
    obtain ⟨y, rfl, hd⟩ := (Hb.out.below hbel).cells (k := k) (by rw [Hlm.out]; exact hkl)
    have hcell := hc k hkl
    have hdell := hd k (by rw [Hlm.out]; exact hkl)
    clear hc hd
    by_cases hkj : k < j
    · have e := Hi.out k hkj
      rw [← e] at hdell
      generalize l.getD k 0 = z at hcell hdell
      clear e
      go_wp2
      go_quiet (fail)
      go_wp2
      go_roundw
      case rel => exact ⟨k + 1, by omega, by go_num, below_drewN hbel _⟩
      case measure => simp [intOf]; omega
    · obtain rfl : k = j := by omega
      have e : ((l.getD k 0 : Int) != (m.getD k 0 : Int)) = true := by rw [bne_iff_ne]; have := Hj.out; omega
      generalize l.getD k 0 = z at hcell e
      generalize m.getD k 0 = z2 at hdell e
      go_wp2
      go_quiet (fail)
      go_wp2
      go_ret
      exact ⟨rfl, below_drewN hbel _⟩
set_option maxHeartbeats 400000 in
/-- A number as one from 0 to n - 1. -/
theorem place_any (v n : Int) (w : World) (h : 0 < n) (h' : n ≤ 9223372036854775807) :
    Calls Try.prog 12 #[.int .i64 v, .int .i64 n] w fun e w' => e = .returned (.int .i64 (v % n)) ∧ w = w' := by
  have hm := Int.emod_nonneg v (show n ≠ 0 by omega)
  have hm2 := Int.emod_lt_of_pos v h
  have ht : 0 ≤ v.tmod n ∧ v % n = v.tmod n ∨ v.tmod n < 0 ∧ v % n = v.tmod n + n := by
    have h1 := Int.tmod_eq_emod (a := v) (b := n)
    split at h1 <;> omega
  have hb : -9223372036854775808 ≤ v.tmod n ∧ v.tmod n ≤ 9223372036854775807 := by omega
  obtain ⟨hb1, hb2⟩ := hb
  have hn0 : n ≠ 0 := by omega
  rcases ht with ⟨ht, he⟩ | ⟨ht, he⟩
  · have He := Lib.hid he
    clear he hm hm2
    go_enter Try.func12, Try.ntmps12
    go_wp2
    go_ret
    exact ⟨ret_int (by rw [He.out]), rfl⟩
  · have He := Lib.hid he
    clear he hm hm2
    go_enter Try.func12, Try.ntmps12
    go_wp2
    go_ret
    exact ⟨ret_int (by rw [He.out]), rfl⟩
/-! The same where the length is spelled otherwise. -/
theorem of_len (a : Option Addr) (n cap : Nat) (l : List Nat) (w : World) (hn : l.length = n) (h : Row w a l) :
    Calls Try.prog 11 #[.slice a n cap] w fun e w' => e = .returned (.int .u16 (crc 65535 l : Nat)) ∧ Below w.heap.size w w' := by
  subst hn; exact CrcA.of_any a cap l w h
theorem add_len (c : Nat) (hc : c < 65536) (a : Option Addr) (n cap : Nat) (l : List Nat) (w : World) (hn : l.length = n) (h : Row w a l) :
    Calls Try.prog 9 #[.int .u16 (c : Int), .slice a n cap] w fun e w' => e = .returned (.int .u16 (crc c l : Nat)) ∧ Below w.heap.size w w' := by
  subst hn; exact CrcA.add_any c hc a cap l w h
theorem differ_len (a b : Option Addr) (n cap cap' : Nat) (l m : List Nat) (w : World) (hl : l.length = n) (hm : m.length = n) (ha : Row w a l) (hb : Row w b m) (hne : l ≠ m) :
    Calls Try.prog 13 #[.slice a n cap, .slice b n cap'] w fun e w' => e = .returned (.bool false) ∧ Below w.heap.size w w' := by
  have h := differ_any a b cap cap' l m w ha hb (by omega) hne
  rw [hl, hm] at h; exact h
/-! Parts of a row. -/
theorem addr_add (x : Addr) (p i : Nat) : (x.add p).add i = x.add (p + i) := by
  unfold Addr.add
  by_cases hp : p = 0
  · subst hp; simp
  · by_cases hi : i = 0
    · subst hi; simp
    · simp [hp, hi, show ¬ (p + i = 0) by omega, Nat.add_assoc]
theorem row_nil (w : World) (a : Option Addr) (l : List Nat) (h : l.length = 0) : Row w a l := by
  rw [List.length_eq_zero_iff.1 h]; exact ⟨Nat.zero_le _, by simp, .inl rfl⟩
theorem row_part {w : World} {a : Option Addr} {l : List Nat} (h : Row w a l) (p q : Nat) : Row w (a.map fun x => x.add p) ((l.drop p).take q) := by
  have hlen : ((l.drop p).take q).length ≤ l.length := by rw [List.length_take, List.length_drop]; omega
  refine ⟨Nat.le_trans hlen h.1, fun x hx => h.2.1 x (List.mem_of_mem_drop (List.mem_of_mem_take hx)), ?_⟩
  rcases h.2.2 with rfl | ⟨x, rfl, hc⟩
  · exact .inl (by simp)
  · refine .inr ⟨_, rfl, fun i hi => ?_⟩
    rw [List.length_take, List.length_drop] at hi
    rw [addr_add, hc (p + i) (by omega), List.getD_eq_getElem?_getD, List.getD_eq_getElem?_getD, List.getElem?_take_of_lt (by omega), List.getElem?_drop]
theorem row_take {w : World} {a : Option Addr} {l : List Nat} (h : Row w a l) (k : Nat) : Row w a (l.take k) := by
  have h1 := row_part h 0 k
  rw [List.drop_zero] at h1
  cases a with
  | none => exact h1
  | some x => rw [Option.map_some, Crc.add_zero] at h1; exact h1
theorem part_len (l : List Nat) (p q : Nat) : ((l.drop p).take q).length = min q (l.length - p) := by rw [List.length_take, List.length_drop]
theorem crc_part (c : Nat) (l : List Nat) (p q : Nat) : crc (crc c (l.take p)) ((l.drop p).take q) = crc c (l.take (min (p + q) l.length)) := by
  rw [← crc_append, ← List.take_add]
  congr 1
  rw [List.take_eq_take_iff]; omega
theorem crc_rest (c : Nat) (l : List Nat) (p : Nat) : crc (crc c (l.take p)) ((l.drop p).take l.length) = crc c l := by
  rw [crc_part, List.take_of_length_le (by omega)]
/-! A made row, and the smallest of four numbers. -/
theorem made (n : Nat) : (madeCells (Value.int .u8 0).cells (n * 1)).toList = vals (List.replicate n 0) := by
  rw [Nat.mul_one, show (Value.int .u8 0).cells = #[.int .u8 0] from rfl, toList_madeCells_one, vals, List.map_replicate]; rfl
theorem wpList_made {ops : Array Oper} {rest : List Oper} {o : Oper} {a : Act} {w : World} {Q : Exit → Act → World → Prop} (hg : o.guard = none) (l c : Operand) (hop : o.op = Op.makeSlice 23 l c)
    (B n : Nat) (L C : Int) (hl : a.eval l = .int .i64 L) (hc : a.eval c = .int .i64 C) (hL : L = (n : Int)) (hC : C = (n : Int)) (hn : n ≤ 1000) (hB : B ≤ w.heap.size)
    (h : ∀ w', Own B w' (.slice (some ⟨w.heap.size, 0, none⟩) n n) (List.replicate n 0) → Below B w w' → w.heap.size < w'.heap.size → wpList Try.prog ops Q rest (a.put o.dst (.slice (some ⟨w.heap.size, 0, none⟩) n n)) w') : wpList Try.prog ops Q (o :: rest) a w := by
  obtain ⟨i0, hi, hz0, hz1, hz2⟩ := info_parts info5
  refine wpList_make_full w hg l c 23 hop B 5 i0 (.int .u8 0) 1 Try.underlying23 hi hz0 hz1 .i64 .i64 L C n hl hc hL hC (by rw [hz2]; omega) (by unfold maxLen; omega) hB ?_
  intro w' hown hgr
  have hown' : Own B w' (.slice (some ⟨w.heap.size, 0, none⟩) n n) (List.replicate n 0) := by
    unfold Own
    rw [List.length_replicate, ← made]; exact hown
  refine h w' hown' ((Below.refl _ _).grown hgr hB (by simp)) ?_
  exact (hown.lt _ rfl).2
theorem run_min4 {P : Program} (ts : Array TypeId) (t : TypeId) (X Y Z U n : Nat) (h : min (min (min X Y) Z) U = n) (w : World) :
    (Builtin.min_ ts t #[.int .i64 X, .int .i64 Y, .int .i64 Z, .int .i64 U]).run P w = .ok (.int .i64 n) w := by
  subst h
  have e2 : ∀ A C : Nat, (if (C : Int) < (A : Int) then (C : Int) else (A : Int)) = ((min A C : Nat) : Int) := by
    intro A C; split <;> omega
  simp only [Builtin.min_, Builtin.min2, List.foldlM_cons, List.foldlM_nil, pure_bind, e2]
  rfl
end Go.Proofs.Ytfmilmgnepmdoaa.CrcB
