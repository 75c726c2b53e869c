/- Bytes: a slice that reads as a list of naturals below 256, bytes of the call's own (copied, appended to, made, stored), rows compared; a number as one from 0 to n - 1. -/
import Derived.Test.YtmffgdgnaafbpaaRows
import Derived.WalkKit
import Derived.ProofKit
import Derived.IntWalk
import Derived.Lib.Hide
import Derived.LoopTactic
import Derived.Below
import Derived.BigQuiet
import Derived.Deep.QuietTactic
import Derived.Deep.WholeRow
import Derived.Laws.BitsAllLaws
import Derived.Lib.SlBytesConst
import Derived.OpenShut
import Derived.Laws.AppendOwnNone
import Derived.Laws.CopyOwn
import Derived.OwnWalk
namespace Go.Proofs.Ytmffgdgnaafbpaa.B
open Go.ChangeShapes Go.WideShapes Go.ChangeAt Go.RowKit
set_option linter.unusedVariables false

theorem ret_int {k : IntKind} {a b : Int} (h : a = b) : Ending.returned (.int k a) = .returned (.int k b) := by rw [h]
theorem chain {a b c : World} (h : Below a.heap.size a b) (k : Below b.heap.size b c) : Below a.heap.size a c := h.trans (k.mono h.size)

theorem add_zero (x : Addr) : x.add 0 = x := by cases x; simp [Addr.add]
/-- A slice's address under which the bytes l lie. -/
def Row (w : World) (a : Option Addr) (l : List Nat) : Prop := l.length ≤ maxLen ∧ (∀ x ∈ l, x < 256) ∧ (l = [] ∨ ∃ x, a = some x ∧ ∀ i, i < l.length → w.cell? (x.add i) = some (.int .u8 (l.getD i 0 : Nat)))
theorem Row.cells {w : World} {a : Option Addr} {l : List Nat} (h : Row w a l) {k : Nat} (hk : k < l.length) : ∃ x, a = some x ∧ ∀ i, i < l.length → w.cell? (x.add i) = some (.int .u8 (l.getD i 0 : Nat)) := by
  rcases h.2.2 with rfl | h
  · simp at hk
  · exact h
theorem Row.below {w w' : World} {a : Option Addr} {l : List Nat} (h : Row w a l) (hb : Below w.heap.size w w') : Row w' a l := by
  refine ⟨h.1, h.2.1, ?_⟩
  rcases h.2.2 with h | ⟨x, hx, hc⟩
  · exact .inl h
  · exact .inr ⟨x, hx, fun i hi => (hb.cell (World.block_lt_of_cell? w _ (hc i hi))).trans (hc i hi)⟩
theorem Row.lt {w : World} {a : Option Addr} {l : List Nat} (h : Row w a l) (k : Nat) (hk : k < l.length) : l.getD k 0 < 256 := by
  rw [List.getD_eq_getElem?_getD, List.getElem?_eq_getElem hk]; exact h.2.1 _ (List.getElem_mem hk)

/-- A slice of bytes that came in reads as a row. -/
theorem row_raw {w : World} {a : Option Addr} {len cap : Nat} {zs : List Int} (h : (a = none ∧ len = 0 ∧ cap = 0 ∧ zs = []) ∨
    ∃ x, a = some x ∧ len ≤ cap ∧ cap ≤ maxLen ∧ zs.length = cap ∧ (∀ i, i < zs.length → w.cell? (x.add i) = some (.int .u8 (zs.getD i 0))) ∧ ∀ n ∈ zs, (Lit.int .u8 n).wf = true) :
    ∃ l : List Nat, l.length = len ∧ Row w a l ∧ len ≤ cap ∧ cap ≤ maxLen ∧ (a = none → cap = 0) := by
  rcases h with ⟨rfl, rfl, rfl, rfl⟩ | ⟨x, rfl, h1, h2, h3, h4, h5⟩
  · exact ⟨[], rfl, ⟨Nat.zero_le _, by simp, .inl rfl⟩, Nat.le_refl _, Nat.zero_le _, fun _ => rfl⟩
  · have hl : ((zs.take len).map Int.toNat).length = len := by rw [List.length_map, List.length_take]; omega
    refine ⟨(zs.take len).map Int.toNat, hl, ⟨by omega, fun y hy => ?_, .inr ⟨x, rfl, fun i hi => ?_⟩⟩, h1, h2, fun e => by cases e⟩
    · obtain ⟨z, hz, rfl⟩ := List.mem_map.1 hy
      have := bounds_u8 (h5 z (List.mem_of_mem_take hz))
      omega
    · rw [hl] at hi
      have hi2 : i < zs.length := by omega
      rw [h4 i hi2]
      have hz := bounds_u8 (h5 _ (List.getElem_mem hi2))
      rw [List.getD_eq_getElem?_getD, List.getD_eq_getElem?_getD, List.getElem?_map, List.getElem?_take_of_lt hi, List.getElem?_eq_getElem hi2]
      simp only [Option.getD_some, Option.map_some]
      congr 2
      omega

def vals (l : List Nat) : List Value := l.map fun n : Nat => .int .u8 (n : Int)
theorem vals_len (l : List Nat) : (vals l).length = l.length := List.length_map ..
theorem vals_at (l : List Nat) (i : Nat) (h : i < l.length) : (vals l)[i]? = some (.int .u8 (l.getD i 0 : Nat)) := by
  unfold vals
  rw [List.getElem?_map, List.getD_eq_getElem?_getD, List.getElem?_eq_getElem h]; rfl
/-- The value v is a slice of the call's own that holds the bytes l. -/
def Own (B : Nat) (w : World) (v : Value) (l : List Nat) : Prop := w.ownsRow B 5 1 v l.length (vals l)
theorem info5 : (Try.prog.info? 5).map (fun i => (i.zero, i.size, i.bytes)) = some (some (.int .u8 0), 1, 1) := by kernel_rfl

theorem own_row {B : Nat} {w : World} {v : Value} {l : List Nat} (h : Own B w v l) (hl : ∀ x ∈ l, x < 256) : ∃ a cap, v = .slice a l.length cap ∧ Row w a l := by
  rcases h.2 with ⟨rfl, h0⟩ | ⟨g, cap, cur, rfl, h1, h2, h3, h4, h5, h6⟩
  · have : l = [] := List.length_eq_zero_iff.1 h0
    subst this
    exact ⟨none, 0, rfl, Nat.zero_le _, hl, .inl rfl⟩
  · refine ⟨_, cap, rfl, by omega, hl, .inr ⟨_, rfl, fun i hi => ?_⟩⟩
    exact h.cells (g := g) rfl i _ (vals_at l i hi)
theorem own_nil (B : Nat) (w : World) : Own B w (.slice none 0 0) [] := World.ownsRow_nil _ _ _ _
theorem own_below {B : Nat} {w w' : World} {v : Value} {l : List Nat} (h : Own B w v l) (hb : Below w.heap.size w w') : Own B w' v l :=
  h.kept (row := none) ⟨hb.os, hb.tape, hb.output, hb.size, fun j hj _ => hb.block j hj⟩ (by cases hv : v.ownBlock <;> simp)
theorem own_lt {B : Nat} {w : World} {v : Value} {l : List Nat} (h : Own B w v l) : ∀ k, v.ownBlock = some k → B ≤ k := fun k hk => (h.lt k hk).1

section
variable {ops : Array Oper} {rest : List Oper} {o : Oper} {a : Act} {w : World} {Q : Exit → Act → World → Prop}
theorem wpList_more (hgd : o.guard = none) (s x : Operand) (ho : o.op = .call { callee := .builtin .append, args := #[s, x], argTypes := #[22, 22] })
    (B : Nat) (v : Value) (l : List Nat) (hs : a.eval s = v) (hown : Own B w v l) (ad : Addr) (cap : Nat) (m : List Nat) (hx : a.eval x = .slice (some ad) m.length cap) (hr : Row w (some ad) m)
    (hB : B ≤ w.heap.size) (hlen : l.length + m.length ≤ 100000) (h : ∀ v' w', Own B w' v' (l ++ m) → Below B w w' → wpList Try.prog ops Q rest (a.put o.dst v') w') : wpList Try.prog ops Q (o :: rest) a w := by
  obtain ⟨i0, hi, hz0, hz1, hz2⟩ := info_parts info5
  refine wpList_append_own w hgd s x 22 ho B 5 i0 (.int .u8 0) 1 1 Try.underlying22 hi hz0 hz1 hz2 rfl (by decide) v l.length (vals l) hs hown ad m.length cap (vals m) hx (by rw [vals_len, Nat.mul_one]) ?_ ?_ (by unfold maxLen; omega) (by omega) hB ?_
  · intro j u hj
    have hjl : j < m.length := by rw [← vals_len m]; exact (List.getElem?_eq_some_iff.1 hj).1
    rw [vals_at m j hjl] at hj
    obtain ⟨y, hy, hc⟩ := hr.cells hjl
    cases hy
    rw [hc j hjl]; exact hj
  · intro u hu
    obtain ⟨n, _, rfl⟩ := List.mem_map.1 hu
    rfl
  · intro v' w' hown' hg _
    refine h v' w' ?_ ((Below.refl _ _).grown hg hB (own_lt hown))
    unfold Own
    rw [List.length_append, show vals (l ++ m) = vals l ++ vals m from List.map_append ..]
    exact hown'
theorem wpList_copy (hgd : o.guard = none) (s x : Operand) (ho : o.op = .call { callee := .builtin .append, args := #[s, x], argTypes := #[22, 22] })
    (hs : a.eval s = .slice none 0 0) (ad : Option Addr) (cap : Nat) (l : List Nat) (hx : a.eval x = .slice ad l.length cap) (hr : Row w ad l) (hnil : ad = none → cap = 0) (hlen : l.length ≤ 100000)
    (h : ∀ v' w', Own w.heap.size w' v' l → Below w.heap.size w w' → wpList Try.prog ops Q rest (a.put o.dst v') w') : wpList Try.prog ops Q (o :: rest) a w := by
  cases ad with
  | none =>
    have hl : l = [] := by
      rcases hr.2.2 with h | ⟨x, hx, _⟩
      · exact h
      · cases hx
    subst hl
    obtain ⟨i0, hi, hz0, hz1, hz2⟩ := info_parts info5
    rw [hnil rfl] at hx
    exact wpList_append_own_none hgd s x 22 ho w.heap.size 5 i0 1 Try.underlying22 hi _ 0 [] hs (World.ownsRow_nil _ _ _ _) hx (h _ _ (own_nil _ _) (Below.refl _ _))
  | some ad => exact wpList_more hgd s x ho w.heap.size _ [] hs (own_nil _ _) ad cap l hx hr (Nat.le_refl _) (by simp; omega) h
end

/-- A slice that is not empty lies in a block of the call's own. -/
theorem own_at {B : Nat} {w : World} {v : Value} {l : List Nat} (h : Own B w v l) (hl : 0 < l.length) :
    ∃ g cap, v = .slice (some ⟨g, 0, none⟩) l.length cap ∧ B ≤ g ∧ (∀ i, w.frozen? ⟨g, i, none⟩ = false) ∧ ∀ i, i < l.length → w.cell? ⟨g, i, none⟩ = some (.int .u8 (l.getD i 0 : Nat)) := by
  rcases h.2 with ⟨rfl, h0⟩ | ⟨g, cap, cur, rfl, h1, h2, h3, h4, h5, h6⟩
  · omega
  · refine ⟨g, cap, rfl, h1, fun i => by simp [World.frozen?, h2], fun i hi => ?_⟩
    have h7 := vals_at l i hi
    rw [← h6, Nat.mul_one, List.getElem?_take_of_lt hi] at h7
    rw [cell_of_row w g i cur _ (0, 0) h2, ← Array.getElem?_toList]
    exact h7
theorem own_set {B : Nat} {w : World} {g cap : Nat} {l : List Nat} (h : Own B w (.slice (some ⟨g, 0, none⟩) l.length cap) l) (i y : Nat) (hi : i < l.length) :
    Own B (w.setCell ⟨g, i, none⟩ (.int .u8 (y : Int))) (.slice (some ⟨g, 0, none⟩) l.length cap) (l.set i y) := by
  rcases h.2 with ⟨h0, _⟩ | ⟨g', cap', cur, e, h1, h2, h3, h4, h5, h6⟩
  · cases h0
  · cases e
    rw [setCell_eq_setRow w g i cur _ (0, 0) _ h2]
    refine ⟨by rw [vals_len, Nat.mul_one], .inr ⟨g, cap, _, by rw [List.length_set], h1, setRow_heap w g cur _ _ _ h2, by rw [List.length_set]; exact h3, h4, by rw [Array.size_setIfInBounds]; exact h5, ?_⟩⟩
    rw [Array.toList_setIfInBounds, List.length_set, List.take_set, h6]
    exact (List.map_set ..).symm
theorem own_set_len {B : Nat} {w : World} {g n cap : Nat} {l : List Nat} (h : Own B w (.slice (some ⟨g, 0, none⟩) n cap) l) (hn : l.length = n) (i y : Nat) (hi : i < n) :
    Own B (w.setCell ⟨g, i, none⟩ (.int .u8 (y : Int))) (.slice (some ⟨g, 0, none⟩) n cap) (l.set i y) := by
  subst hn
  exact own_set h _ _ hi
theorem below_set {B : Nat} {a w : World} {g : Nat} (h : Below B a w) (hB : B ≤ g) (i : Nat) (v : Value) : Below B a (w.setCell ⟨g, i, none⟩ v) := h.setCell hB v

theorem below_drewN {B : Nat} {a w : World} (h : Below B a w) (n : Nat) : Below B a (w.drewN n) := h.trans ⟨rfl, rfl, rfl, Nat.le_refl _, fun _ _ => rfl⟩

set_option maxHeartbeats 400000 in
/-- A number as one from 0 to n - 1. -/
theorem place_any (v n : Int) (w : World) (h : 0 < n) (h' : n ≤ 9223372036854775807) :
    Calls Try.prog 24 #[.int .i64 v, .int .i64 n] w fun e w' => e = .returned (.int .i64 (v % n)) ∧ w = w' := by
  have hm := Int.emod_nonneg v (show n ≠ 0 by omega)
  have hm2 := Int.emod_lt_of_pos v h
  have ht : 0 ≤ v.tmod n ∧ v % n = v.tmod n ∨ v.tmod n < 0 ∧ v % n = v.tmod n + n := by
    have h1 := Int.tmod_eq_emod (a := v) (b := n)
    split at h1 <;> omega
  have hb : -9223372036854775808 ≤ v.tmod n ∧ v.tmod n ≤ 9223372036854775807 := by omega
  obtain ⟨hb1, hb2⟩ := hb
  have hn0 : n ≠ 0 := by omega
  rcases ht with ⟨ht, he⟩ | ⟨ht, he⟩
  · have He := Lib.hid he
    clear he hm hm2
    go_enter Try.func24, Try.ntmps24
    go_wp2
    go_ret
    exact ⟨ret_int (by rw [He.out]), rfl⟩
  · have He := Lib.hid he
    clear he hm hm2
    go_enter Try.func24, Try.ntmps24
    go_wp2
    go_ret
    exact ⟨ret_int (by rw [He.out]), rfl⟩
/-! Parts of a row. -/
theorem addr_add (x : Addr) (p i : Nat) : (x.add p).add i = x.add (p + i) := by
  unfold Addr.add
  by_cases hp : p = 0
  · subst hp; simp
  · by_cases hi : i = 0
    · subst hi; simp
    · simp [hp, hi, show ¬ (p + i = 0) by omega, Nat.add_assoc]
theorem row_nil (w : World) (a : Option Addr) (l : List Nat) (h : l.length = 0) : Row w a l := by
  rw [List.length_eq_zero_iff.1 h]; exact ⟨Nat.zero_le _, by simp, .inl rfl⟩
theorem row_part {w : World} {a : Option Addr} {l : List Nat} (h : Row w a l) (p q : Nat) : Row w (a.map fun x => x.add p) ((l.drop p).take q) := by
  have hlen : ((l.drop p).take q).length ≤ l.length := by rw [List.length_take, List.length_drop]; omega
  refine ⟨Nat.le_trans hlen h.1, fun x hx => h.2.1 x (List.mem_of_mem_drop (List.mem_of_mem_take hx)), ?_⟩
  rcases h.2.2 with rfl | ⟨x, rfl, hc⟩
  · exact .inl (by simp)
  · refine .inr ⟨_, rfl, fun i hi => ?_⟩
    rw [List.length_take, List.length_drop] at hi
    rw [addr_add, hc (p + i) (by omega), List.getD_eq_getElem?_getD, List.getD_eq_getElem?_getD, List.getElem?_take_of_lt (by omega), List.getElem?_drop]
theorem row_take {w : World} {a : Option Addr} {l : List Nat} (h : Row w a l) (k : Nat) : Row w a (l.take k) := by
  have h1 := row_part h 0 k
  rw [List.drop_zero] at h1
  cases a with
  | none => exact h1
  | some x => rw [Option.map_some, add_zero] at h1; exact h1
theorem part_len (l : List Nat) (p q : Nat) : ((l.drop p).take q).length = min q (l.length - p) := by rw [List.length_take, List.length_drop]
/-! A made row. -/
theorem made (n : Nat) : (madeCells (Value.int .u8 0).cells (n * 1)).toList = vals (List.replicate n 0) := by
  rw [Nat.mul_one, show (Value.int .u8 0).cells = #[.int .u8 0] from rfl, toList_madeCells_one, vals, List.map_replicate]; rfl
theorem wpList_made {ops : Array Oper} {rest : List Oper} {o : Oper} {a : Act} {w : World} {Q : Exit → Act → World → Prop} (hg : o.guard = none) (l c : Operand) (hop : o.op = Op.makeSlice 22 l c)
    (B n : Nat) (L C : Int) (hl : a.eval l = .int .i64 L) (hc : a.eval c = .int .i64 C) (hL : L = (n : Int)) (hC : C = (n : Int)) (hn : n ≤ 100000) (hB : B ≤ w.heap.size)
    (h : ∀ w', Own B w' (.slice (some ⟨w.heap.size, 0, none⟩) n n) (List.replicate n 0) → Below B w w' → w.heap.size < w'.heap.size → wpList Try.prog ops Q rest (a.put o.dst (.slice (some ⟨w.heap.size, 0, none⟩) n n)) w') : wpList Try.prog ops Q (o :: rest) a w := by
  obtain ⟨i0, hi, hz0, hz1, hz2⟩ := info_parts info5
  refine wpList_make_full w hg l c 22 hop B 5 i0 (.int .u8 0) 1 Try.underlying22 hi hz0 hz1 .i64 .i64 L C n hl hc hL hC (by rw [hz2]; omega) (by unfold maxLen; omega) hB ?_
  intro w' hown hgr
  have hown' : Own B w' (.slice (some ⟨w.heap.size, 0, none⟩) n n) (List.replicate n 0) := by
    unfold Own
    rw [List.length_replicate, ← made]; exact hown
  refine h w' hown' ((Below.refl _ _).grown hgr hB (by simp)) ?_
  exact (hown.lt _ rfl).2
/-- make([]byte, n, c), n at most c. -/
theorem wpList_space {ops : Array Oper} {rest : List Oper} {o : Oper} {a : Act} {w : World} {Q : Exit → Act → World → Prop} (hg : o.guard = none) (l c : Operand) (hop : o.op = Op.makeSlice 22 l c)
    (B n m : Nat) (L C : Int) (hl : a.eval l = .int .i64 L) (hc : a.eval c = .int .i64 C) (hL : L = (n : Int)) (hC : C = (m : Int)) (hn : n ≤ m) (hm : m ≤ 100000) (hB : B ≤ w.heap.size)
    (h : ∀ w', w'.heap[w.heap.size]? = some (.cells (List.replicate m (.int .u8 0)).toArray 5 (0, 0)) → Below B w w' → w.heap.size < w'.heap.size → wpList Try.prog ops Q rest (a.put o.dst (.slice (some ⟨w.heap.size, 0, none⟩) n m)) w') : wpList Try.prog ops Q (o :: rest) a w := by
  obtain ⟨i0, hi, hz0, hz1, hz2⟩ := info_parts info5
  refine wpList_plain hg fun K hK => ?_
  have hrun := run_make (P := Try.prog) w 22 5 i0 (.int .u8 0) Try.underlying22 hi hz0 .i64 .i64 (n : Int) (m : Int) (by omega) (by omega) (by rw [hz2]; omega) (by omega)
  subst hL hC
  unfold Oper.wp
  simp [execOp, hop, hl, hc, hrun, Result.andThen]
  refine hK _ _ (h _ ?_ ((Below.refl _ _).alloc hB _) (by simp))
  rw [heap_alloc_new, hz1, Nat.mul_one]
  congr 2
  rw [← toList_madeCells_one]
  rfl
/-- copy into the first n places of a row of the call's own. -/
theorem wpList_copied {ops : Array Oper} {rest : List Oper} {o : Oper} {a : Act} {w : World} {Q : Exit → Act → World → Prop} (hgd : o.guard = none) (d s : Operand)
    (ho : o.op = .call { callee := .builtin .copy, args := #[d, s], argTypes := #[22, 22] }) (B g n m : Nat) (hd : a.eval d = .slice (some ⟨g, 0, none⟩) n m)
    (ad : Option Addr) (cap : Nat) (l : List Nat) (hs : a.eval s = .slice ad n cap) (hn : l.length = n) (hr : Row w ad l) (hm : n ≤ m) (hm2 : m ≤ 100000)
    (cur : List Value) (hg : w.heap[g]? = some (.cells cur.toArray 5 (0, 0))) (hcur : cur.length = m) (hB : B ≤ g)
    (h : ∀ w', Own B w' (.slice (some ⟨g, 0, none⟩) n m) l → Below B w w' → wpList Try.prog ops Q rest (a.put o.dst (goInt n)) w') : wpList Try.prog ops Q (o :: rest) a w := by
  have hvl := vals_len l
  refine wpList_copy_splice hgd d s 22 22 ho 5 Try.underlying22 (by kernel_rfl) (some ⟨g, 0, none⟩) ad n m n cap hd hs g 0 cur 5 hg (vals l) (by rw [hvl, hn]; exact (Nat.min_self n).symm) ?_ (by rw [hvl]; omega) ?_ B w (Below.refl _ _) hB ?_
  · intro hpos
    rw [hvl] at hpos
    refine ⟨rfl, ?_⟩
    obtain ⟨y, hy, hc⟩ := hr.cells hpos
    refine ⟨y, hy, fun j v hj => ?_⟩
    have hjl : j < l.length := by rw [← hvl]; exact (List.getElem?_eq_some_iff.1 hj).1
    rw [vals_at l j hjl] at hj
    rw [hc j hjl]; exact hj
  · intro u hu
    obtain ⟨q, _, rfl⟩ := List.mem_map.1 hu
    rfl
  · intro w' hg' hb
    rw [hvl, hn]
    refine h w' ⟨by rw [hvl, Nat.mul_one], .inr ⟨g, m, _, by rw [hn], hB, hg'.out, by omega, by unfold maxLen; omega, ?_, ?_⟩⟩ hb
    · rw [List.size_toArray, length_splice _ _ _ (by rw [hvl]; omega), hcur, Nat.mul_one]
    · rw [Nat.mul_one]
      simp only [splice, List.take_zero, List.nil_append]
      rw [List.take_append_of_le_length (by rw [hvl]; omega), List.take_of_length_le (by rw [hvl]; omega)]

set_option maxHeartbeats 1000000 in
/-- Two slices that hold the same bytes. -/
theorem same_any (a b : Option Addr) (cap cap' : Nat) (l : List Nat) (w : World) (ha : Row w a l) (hb : Row w b l) :
    Calls Try.prog 10 #[.slice a l.length cap, .slice b l.length cap'] w fun e w' => e = .returned (.bool true) ∧ Below w.heap.size w w' := by
  have h1 := ha.1
  unfold maxLen at h1
  have Ha := Lib.hid ha
  have Hb := Lib.hid hb
  clear ha hb
  go_enter Try.func10, Try.ntmps10
  go_wp2
  go_loopw [5] (fun i wr => ∃ k : Nat, k ≤ l.length ∧ i = .int .i64 k ∧ Below w.heap.size w wr) (fun i _ => l.length - (intOf i).toNat)
  case atStart => exact ⟨0, Nat.zero_le _, rfl, Below.refl _ _⟩
  case round =>
    obtain ⟨k, hk, rfl, hbel⟩ := hrel
    by_cases hlt : k < l.length
    · obtain ⟨x, rfl, hc⟩ := (Ha.out.below hbel).cells hlt
      obtain ⟨y, rfl, hd⟩ := (Hb.out.below hbel).cells hlt
      have hcell := hc k hlt
      have hdell := hd k hlt
      clear hc hd
      generalize l.getD k 0 = z at hcell hdell
      go_wp2
      go_quiet (fail)
      go_wp2
      go_roundw
      case rel => exact ⟨k + 1, by omega, by go_num, below_drewN hbel _⟩
      case measure => simp [intOf]; omega
    · go_wp2
      go_ret
      exact ⟨rfl, hbel⟩
theorem same_len (a b : Option Addr) (n n' cap cap' : Nat) (l : List Nat) (w : World) (hn : l.length = n) (hn' : l.length = n') (ha : Row w a l) (hb : Row w b l) :
    Calls Try.prog 10 #[.slice a n cap, .slice b n' cap'] w fun e w' => e = .returned (.bool true) ∧ Below w.heap.size w w' := by
  subst hn hn'; exact same_any a b cap cap' l w ha hb
end Go.Proofs.Ytmffgdgnaafbpaa.B
