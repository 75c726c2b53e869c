/- make and copy for elements of several cells: the walk's laws; a list's elements as one row of cells. No program in it. -/
import Derived.Test.YtbpfknkbiaplpaaTab
import Derived.OwnWalk
import Derived.Laws.CopyOwn
namespace Go.Proofs.Ytbpfknkbiaplpaa.Copy
open Go Go.RowKit
open Tab

section
variable {P : Program}
theorem run_copy_rows (w : World) (dT sT ty elem : TypeId) (g dLen dCap : Nat) (a : Addr) (sLen sCap c n : Nat) (cur : Array Value) (t : TypeId) (cs : List Value)
    (hu : P.underlying dT = some (.slice elem)) (hs : (P.info? elem).map (·.size) = some c) (hg : w.heap[g]? = some (.cells cur t (0, 0))) (hn : n = Nat.min sLen dLen) (hc : cs.length = n * c)
    (hsrc : Lies w a cs) (hfit : cs.length = cur.size) (h1 : ∀ v ∈ cs, v.oneCell' = true) :
    (Builtin.copy_ #[dT, sT] ty #[.slice (some ⟨g, 0, none⟩) dLen dCap, .slice (some a) sLen sCap]).run P w = .ok (goInt n) (w.setRow g cs.toArray) := by
  have hl := run_loadCells_list (P := P) w a cs hsrc
  have hst := run_storeCells_at P g 0 t cs 0 cur w hg (by omega) h1
  cases hq : P.info? elem with
  | none => simp [hq] at hs
  | some i =>
    have hi : i.size = c := by simpa [hq] using hs
    rw [hc] at hl
    have he : cur.toList.take (0 + 0) ++ cs ++ cur.toList.drop (0 + 0 + cs.length) = cs := by
      rw [List.drop_of_length_le (by simp; omega)]; simp
    rw [he] at hst
    simp [Builtin.copy_, run_underlying hu, Builtin.lenOf, Builtin.firstCells, sizeOf, typeInfo, hq, hi, ← hn, hl, hst]
theorem run_copy_zero (w : World) (dT sT ty elem : TypeId) (dp sp : Option Addr) (dLen dCap sLen sCap : Nat) (hu : P.underlying dT = some (.slice elem)) (hs : ((P.info? elem).map (·.size)).isSome = true) (hn : Nat.min sLen dLen = 0) :
    (Builtin.copy_ #[dT, sT] ty #[.slice dp dLen dCap, .slice sp sLen sCap]).run P w = .ok (goInt 0) w := by
  cases hq : P.info? elem with
  | none => simp [hq] at hs
  | some i => cases dp <;> cases sp <;> simp [Builtin.copy_, run_underlying hu, Builtin.lenOf, Builtin.firstCells, sizeOf, typeInfo, hq, storeCells, hn, loadCells, loadCellsFrom]
/-- make([]T, n): a block of n times as many cells as an element has. -/
theorem wpList_make_rows {ops : Array Oper} {rest : List Oper} {o : Oper} {a : Act} {w : World} {Q : Exit → Act → World → Prop} (hg : o.guard = none) (l c : Operand) (t e : TypeId) (hop : o.op = Op.makeSlice t l c) (hu : P.underlying t = some (.slice e))
    (z : Value) (size bytes : Nat) (hi : (P.info? e).map (fun i => (i.zero, i.size, i.bytes)) = some (some z, size, bytes)) (n : Nat) (hl : a.eval l = .int .i64 (n : Int)) (hc : a.eval c = .int .i64 (n : Int)) (hn : n ≤ 1000) (hb : bytes ≤ 100000)
    (h : ∀ w' cur, w'.heap[w.heap.size]? = some (.cells cur e (0, 0)) → cur.size = n * size → Below w.heap.size w w' → w'.heap.size = w.heap.size + 1 → wpList P ops Q rest (a.put o.dst (.slice (some ⟨w.heap.size, 0, none⟩) n n)) w') : wpList P ops Q (o :: rest) a w := by
  obtain ⟨i, hi0, hz, hs, hby⟩ := info_parts hi
  refine wpList_plain hg fun K hK => ?_
  have hle : (i.bytes : Int) * (n : Int) ≤ 281474976710656 := by
    have h1 : i.bytes * n ≤ 100000 * 1000 := Nat.mul_le_mul (by omega) hn
    have h2 : (i.bytes : Int) * (n : Int) = ((i.bytes * n : Nat) : Int) := by simp
    omega
  have hrun := run_make (P := P) w t e i z hu hi0 hz .i64 .i64 (n : Int) (n : Int) (by omega) (by omega) hle (by omega)
  unfold Oper.wp
  simp only [execOp, hop, hl, hc, Sem.run_bind, hrun, Result.andThen_ok]
  refine hK _ _ (h _ _ (heap_alloc_new _ _) ?_ ((Below.refl _ _).alloc (Nat.le_refl _) _) (by simp))
  rw [size_madeCells, hs]; simp
/-- copy into all of a block of the call's own. -/
theorem wpList_copy_rows {ops : Array Oper} {rest : List Oper} {o : Oper} {a : Act} {w : World} {Q : Exit → Act → World → Prop} (hgd : o.guard = none) (d s : Operand) (dT sT elem : TypeId)
    (ho : o.op = .call { callee := .builtin .copy, args := #[d, s], argTypes := #[dT, sT] }) (hu : P.underlying dT = some (.slice elem)) (c : Nat) (hsz : (P.info? elem).map (·.size) = some c)
    (g n sCap : Nat) (sp : Option Addr) (hd : a.eval d = .slice (some ⟨g, 0, none⟩) n n) (hs : a.eval s = .slice sp n sCap) (cur : Array Value) (t : TypeId) (hg : w.heap[g]? = some (.cells cur t (0, 0)))
    (cs : List Value) (hcs : cs.length = n * c) (hcur : cur.size = n * c) (hsrc : 0 < n → ∃ x, sp = some x ∧ Lies w x cs) (h1 : ∀ v ∈ cs, v.oneCell' = true)
    (h : ∀ w', w'.heap[g]? = some (.cells cs.toArray t (0, 0)) → Below g w w' → w'.heap.size = w.heap.size → wpList P ops Q rest (a.put o.dst (goInt n)) w') : wpList P ops Q (o :: rest) a w := by
  refine wpList_plain hgd fun K hK => ?_
  by_cases h0 : n = 0
  · subst h0
    have hrun := run_copy_zero (P := P) w dT sT o.type elem (some ⟨g, 0, none⟩) sp 0 0 0 sCap hu (by rw [hsz]; rfl) rfl
    unfold Oper.wp
    simp [execOp, ho, resolve, invoke, builtin, hd, hs, hrun, Result.andThen]
    have e1 : cs = [] := List.eq_nil_of_length_eq_zero (by simpa using hcs)
    have e2 : cur = #[] := Array.eq_empty_of_size_eq_zero (by simpa using hcur)
    refine hK _ _ (h w ?_ (Below.refl _ _) rfl)
    rw [hg, e1, e2]
  · obtain ⟨x, rfl, hlx⟩ := hsrc (by omega)
    have hrun := run_copy_rows (P := P) w dT sT o.type elem g n n x n sCap c n cur t cs hu hsz hg (Nat.min_self n).symm hcs hlx (by omega) h1
    unfold Oper.wp
    simp [execOp, ho, resolve, invoke, builtin, hd, hs, hrun, Result.andThen]
    exact hK _ _ (h _ (setRow_heap w g cur cs.toArray t _ hg) (below_setRow (Below.refl _ _) (Nat.le_refl _) _) (by simp))
end

/-! ### a list's elements as one row -/
section
variable {α : Type} {n : Nat} {enc : α → List Value}
theorem flat_len (he : ∀ v, (enc v).length = n) (l : List α) : (l.flatMap enc).length = l.length * n := by
  induction l with
  | nil => simp
  | cons v l ih => rw [List.flatMap_cons, List.length_append, ih, he, List.length_cons, Nat.add_mul, Nat.one_mul, Nat.add_comm]
theorem lies_flat (he : ∀ v, (enc v).length = n) {w : World} {x : Addr} : ∀ (l : List α) (k : Nat), (∀ i v, l[i]? = some v → Lies w (x.add ((k + i) * n)) (enc v)) → Lies w (x.add (k * n)) (l.flatMap enc)
  | [], _, _ => fun j v hv => by simp at hv
  | u :: l, k, h => by
    have ih := lies_flat he l (k + 1) (fun i v hv => by have := h (i + 1) v (by simpa using hv); rwa [show k + (i + 1) = k + 1 + i by omega] at this)
    intro j v hv
    rw [List.flatMap_cons, List.getElem?_append] at hv
    split at hv
    · exact h 0 u rfl j v hv
    · rename_i hj
      have := ih (j - (enc u).length) v hv
      rw [add_two, he u, Nat.add_mul, Nat.one_mul, show k * n + n + (j - n) = k * n + j by rw [he u] at hj; omega] at this
      rw [add_two]; exact this
theorem flat_at (he : ∀ v, (enc v).length = n) : ∀ (l : List α) (i : Nat) (v : α) (j : Nat) (u : Value), l[i]? = some v → (enc v)[j]? = some u → (l.flatMap enc)[i * n + j]? = some u
  | x :: l, 0, v, j, u, h, hu => by
    obtain rfl := Option.some.inj h
    rw [List.flatMap_cons, Nat.zero_mul, Nat.zero_add, List.getElem?_append_left (List.getElem?_eq_some_iff.1 hu).1]; exact hu
  | x :: l, i + 1, v, j, u, h, hu => by
    have := flat_at he l i v j u (by simpa using h) hu
    rw [List.flatMap_cons, List.getElem?_append_right (by rw [he, Nat.add_mul]; omega), he, Nat.add_mul, Nat.one_mul, show i * n + n + j - n = i * n + j by omega]
    exact this
/-- A block that holds just a list's elements, as a slice over it. -/
theorem row_of_block (he : ∀ v, (enc v).length = n) {w : World} {g : Nat} {t : TypeId} {fr : Nat × Nat} (l : List α) (hg : w.heap[g]? = some (.cells (l.flatMap enc).toArray t fr)) (hl : l.length ≤ maxLen) : RowOf n enc w ⟨some ⟨g, 0, none⟩, l.length⟩ l := by
  refine .inr ⟨_, rfl, Nat.le_refl _, hl, fun i v hv j u hu => ?_⟩
  rw [add_two, Addr.add_mid, cell_of_row _ _ _ _ _ _ hg, Nat.zero_add]
  simpa using flat_at he l i v j u hv hu
theorem RowOf.flat (he : ∀ v, (enc v).length = n) {w : World} {s : Sl} {l : List α} (h : RowOf n enc w s l) (h0 : 0 < l.length) : ∃ x, s.a = some x ∧ Lies w x (l.flatMap enc) := by
  rcases h with ⟨_, _, rfl⟩ | ⟨x, h1, h2, h3, h4⟩
  · simp at h0
  · refine ⟨x, h1, ?_⟩
    have := lies_flat (x := x) he l 0 (fun i v hv => by rw [Nat.zero_add]; exact h4 i v hv)
    rwa [Nat.zero_mul, add_zero] at this
theorem flat_one (ho : ∀ v, (enc v).toArray.all (·.oneCell') = true) (l : List α) : ∀ u ∈ l.flatMap enc, u.oneCell' = true := by
  intro u hu
  obtain ⟨v, _, hv⟩ := List.mem_flatMap.1 hu
  have := ho v
  rw [List.all_toArray] at this
  exact List.all_eq_true.1 this u hv
end
end Go.Proofs.Ytbpfknkbiaplpaa.Copy
