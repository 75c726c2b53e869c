/- A region that draws its order: its first operations pure, then a head that reads and calls what may make memory, then a chain at its end: the head walked once, in the order of the text, in a class of worlds; the end in each world of the class. No program in it. -/
import Derived.StillTail
import Derived.Test.YtbpfknkbiaplpaaQB
namespace Go.Proofs.Ytbpfknkbiaplpaa.QT
open Go Go.RowKit
section
variable {P : Program} {ops : Array Oper} {md : Region.Mode} {C : World → Prop} {m n : Nat}
/-- Nothing of the end comes up ahead of the head: each of the head is waited for by a later one, at the latest by number n. -/
def sinks (md : Region.Mode) (ops : Array Oper) (m n : Nat) : Bool := (List.range n).all fun i => decide (i < m) || (List.range (n + 1)).any fun j => decide (i < j) && Region.waitsFor md ops j i
/-- The first m wait for none but the first m. -/
def shut (md : Region.Mode) (ops : Array Oper) (m : Nat) : Bool := (List.range m).all fun j => match ops[j]? with | some o => o.after.all fun e => !Region.binds md e || decide (e.on < m) | none => true
def begun (ops : Array Oper) (m : Nat) : Array Bool := Array.replicate m true ++ Array.replicate (ops.size - m) false
/-- What has come up: the first m, and what it waits for. -/
structure Inv (md : Region.Mode) (ops : Array Oper) (m n : Nat) (L : Array Bool) : Prop where
  size : L.size = ops.size
  first : ∀ j, j < m → L.getD j false = true
  back : ∀ j o, ops[j]? = some o → L.getD j false = true → ∀ e ∈ o.after, Region.binds md e = true → L.getD e.on false = true
  rest : ∀ t, n ≤ t → t < ops.size → L.getD t true = false
theorem Inv.set {i : Nat} {L : Array Bool} (h : Inv md ops m n L) (hi : i ∈ Region.ready md ops L) (hn : i < n) : Inv md ops m n (L.setIfInBounds i true) := by
  obtain ⟨_, oi, hoi, hall⟩ := mem_ready.1 hi
  refine ⟨by simp [h.size], fun j hj => getD_set_true (h.first j hj), fun j o hj hl e he hb => ?_, fun t h1 h2 => (getD_set_ne true (by omega)).trans (h.rest t h1 h2)⟩
  rcases Nat.decEq i j with hij | hij
  · rw [getD_set_ne false hij] at hl
    exact getD_set_true (h.back j o hj hl e he hb)
  · subst hij
    obtain rfl : o = oi := Option.some.inj (hj.symm.trans hoi)
    exact getD_set_true (hall e he hb)
/-- As long as one of the head has not come up, none of the end is ready. -/
theorem later {L : Array Bool} (hs : sinks md ops m n = true) (hc : Region.chainB md ops n = true) (hn : n < ops.size) (h : Inv md ops m n L) :
    ∀ (d i : Nat), n - i ≤ d → i < n → L.getD i true = false → ∀ t ∈ Region.ready md ops L, t < n
  | 0, i, hd, hi, _, _, _ => by omega
  | d + 1, i, hd, hi, hun, t, ht => by
    rcases Nat.lt_or_ge t n with hlt | hge
    · exact hlt
    exfalso
    obtain ⟨_, ot, hot, hall⟩ := mem_ready.1 ht
    have htl : t < ops.size := (Array.getElem?_eq_some_iff.1 hot).1
    rcases Nat.eq_or_lt_of_le hge with rfl | hgt
    · have h1 := List.all_eq_true.1 hs i (List.mem_range.2 hi)
      have hm : ¬ i < m := fun hm => by have := getD_both hun; rw [h.first i hm] at this; cases this
      rw [decide_eq_false hm, Bool.false_or] at h1
      obtain ⟨j, hj, hj2⟩ := List.any_eq_true.1 h1
      simp only [Bool.and_eq_true, decide_eq_true_eq] at hj2
      obtain ⟨oj, hoj, e, he, hb, hon⟩ := Region.waitsFor_spec hj2.2
      have hjl := List.mem_range.1 hj
      have hno : L.getD e.on false = false := by rw [hon]; exact getD_both hun
      by_cases hjt : j = n
      · subst hjt
        obtain rfl : oj = ot := Option.some.inj (hoj.symm.trans hot)
        rw [hall e he hb] at hno
        cases hno
      · cases hl : L.getD j false with
        | true => rw [h.back j oj hoj hl e he hb] at hno; cases hno
        | false => exact absurd (later hs hc hn h d j (by omega) (by omega) (getD_in (by rw [h.size]; omega) hl) n ht) (by omega)
    · have h1 := List.all_eq_true.1 hc t (List.mem_range.2 htl)
      simp only [Bool.or_eq_true, decide_eq_true_eq] at h1
      obtain ⟨o', ho', e, he, hb, hon⟩ := Region.waitsFor_spec (h1.resolve_left (by omega))
      obtain rfl : o' = ot := Option.some.inj (ho'.symm.trans hot)
      have h2 := hall e he hb
      rw [hon, getD_both (h.rest (t - 1) (by omega) (by omega))] at h2
      cases h2
/-- Whatever of the head comes up next. -/
def anyT (P : Program) (md : Region.Mode) (ops : Array Oper) (C : World → Prop) (n : Nat) (E : Array Bool → Act → Prop) : Nat → Array Bool → Act → Prop
  | 0, L, a => E L a
  | f + 1, L, a => Region.ready md ops L ≠ [] ∧ ∀ i ∈ Region.ready md ops L, i < n ∧ qOp P ops C i (anyT P md ops C n E f (L.setIfInBounds i true)) a
theorem wpAny_of {g : Nat} {E : Array Bool → Act → Prop} {Q : Exit → Act → World → Prop} (hE : ∀ L a w, C w → E L a → wpAny P md ops Q g L a w) : ∀ (f : Nat) (L : Array Bool) (a : Act) (w : World), C w → anyT P md ops C n E f L a → wpAny P md ops Q (f + g) L a w
  | 0, L, a, w, hw, h => by rw [Nat.zero_add]; exact hE _ _ _ hw h
  | f + 1, L, a, w, hw, h => by
    rw [Nat.add_right_comm]
    exact ⟨fun h0 => absurd h0 h.1, fun i hi => wpOp_of_qOp hw (fun a' w' hw' h' => wpAny_of hE f _ a' w' hw' h') (h.2 i hi).2⟩
theorem one {i : Nat} {oi : Oper} {v : Value} {E : Array Bool → Act → Prop} (hi : ops[i]? = some oi) (hsel : ∀ (j : Nat) (o : Oper) cs b, ops[j]? = some o → o.op ≠ .select cs b)
    (hs : sinks md ops m n = true) (hc : Region.chainB md ops n = true) (hn : n < ops.size) (hin : i < n) (hE : ∀ L a, E L a → ∀ j ∈ Region.ready md ops L, n ≤ j) : ∀ (f : Nat) (L : Array Bool) (a : Act), Inv md ops m n L →
      (∀ j oj, ops[j]? = some oj → j ≠ i → L.getD j true = false → (∀ e ∈ oj.after, Region.binds md e = true → e.on ≠ i) → oi.apart ops oj = true) →
      i ∈ Region.ready md ops L → YieldsIn P ops C oi v a → anyT P md ops C n E f (L.setIfInBounds i true) (a.put oi.dst v) → anyT P md ops C n E (f + 1) L a := by
  intro f
  induction f with
  | zero =>
    intro L a inv _ hr hy H
    refine ⟨List.ne_nil_of_mem hr, fun j hj => ?_⟩
    have hjn := later hs hc hn inv _ i (Nat.le_refl _) hin (mem_ready.1 hr).1 j hj
    refine ⟨hjn, ?_⟩
    rcases Nat.decEq j i with hji | rfl
    · exact absurd (hE _ _ H j (ready_mono hj hji)) (by omega)
    · exact hy.qOp hi H
  | succ f ih =>
    intro L a inv hfree hr hy H
    refine ⟨List.ne_nil_of_mem hr, fun j hj => ?_⟩
    have hjn := later hs hc hn inv _ i (Nat.le_refl _) hin (mem_ready.1 hr).1 j hj
    refine ⟨hjn, ?_⟩
    rcases Nat.decEq j i with hji | rfl
    · obtain ⟨hjun, oj, hoj, hall⟩ := mem_ready.1 hj
      have hno : ∀ e ∈ oj.after, Region.binds md e = true → e.on ≠ i := fun e he hb heq => by
        have h1 := hall e he hb
        rw [heq, getD_both (mem_ready.1 hr).1] at h1
        cases h1
      refine qOp_mono (fun a' h3 => ih (L.setIfInBounds j true) a' (inv.set hj hjn) (fun k ok hk hki hun hnk => ?_) (ready_mono hr (Ne.symm hji)) h3.1 ?_)
        (qOp_put hoj (hfree j oj hoj hji hjun hno) (fun cs b => hsel i oi cs b hi) (fun cs b => hsel j oj cs b hoj) hy (H.2 j (ready_mono hj hji)).2)
      · refine hfree k ok hk hki ?_ hnk
        rcases Nat.decEq j k with hjk | rfl
        · rwa [getD_set_ne true hjk] at hun
        · exact hjun
      · rw [Array.setIfInBounds_comm _ _ hji]
        exact h3.2
    · exact hy.qOp hi H
theorem lex {g : Nat} {E : Act → Prop} (hsel : Region.noSelect ops = true) (hs : sinks md ops m n = true) (hc : Region.chainB md ops n = true) (hn : n < ops.size) : ∀ (l : List Oper) (k : Nat) (L : Array Bool) (a : Act), (∀ j, j < l.length → l[j]? = ops[k + j]?) → k + l.length = n → Inv md ops m n L →
    Region.lexHead md ops g l.length k L = true → wpQuiet P ops C E l a → anyT P md ops C n (fun L' a' => Region.seqB md ops g n L' = true ∧ E a') l.length L a
  | [], k, L, a, _, hk, _, hB, h => by
    obtain rfl : k = n := hk
    exact ⟨hB, h⟩
  | o :: l, k, L, a, hl, hk, inv, hB, h => by
    have h0 : ops[k]? = some o := (hl 0 (Nat.zero_lt_succ _)).symm
    simp only [List.length_cons, Region.lexHead, Bool.and_eq_true] at hB hk
    obtain ⟨⟨hr, hf⟩, hB'⟩ := hB
    have hr' : k ∈ Region.ready md ops L := List.contains_iff_mem.1 hr
    have hst : qOp P ops C k (wpQuiet P ops C E l) a := by unfold qOp; rw [h0]; exact h
    obtain ⟨v, hy, hK⟩ := yieldsIn_of_qOp h0 hst
    refine one h0 (Region.noSelect_spec hsel) hs hc hn (by omega) (fun L' a' hL => seqB_ready hL.1) l.length L a inv (Region.free_spec h0 hf) hr' hy (lex hsel hs hc hn l (k + 1) _ _ (fun j hj => ?_) (by omega) (inv.set hr' (by omega)) hB' hK)
    have := hl (j + 1) (Nat.succ_lt_succ hj)
    rwa [show k + (j + 1) = k + 1 + j by omega] at this
theorem getD_begun {m j : Nat} (hm : m ≤ ops.size) (d : Bool) (hj : j < ops.size) : (begun ops m).getD j d = decide (j < m) := by
  have hsz : (begun ops m).size = ops.size := by simp [begun]; omega
  have h1 : (begun ops m)[j]? = some (decide (j < m)) := by
    unfold begun
    rw [Array.getElem?_append]
    split <;> rename_i h
    · simp at h; simp [h]
    · simp at h
      have hr : (Array.replicate (ops.size - m) false)[j - m]? = some false := by rw [Array.getElem?_replicate]; simp; omega
      simp only [Array.size_replicate]
      rw [hr]
      simp; omega
  rw [Array.getD_eq_getD_getElem?, h1]
  rfl
theorem inv_begun (hm : m ≤ n) (hn : n < ops.size) (hh : shut md ops m = true) : Inv md ops m n (begun ops m) := by
  have hsz : (begun ops m).size = ops.size := by simp [begun]; omega
  refine ⟨hsz, fun j hj => by rw [getD_begun (by omega) _ (by omega)]; simpa using hj, fun j o hj hl e he hb => ?_, fun t h1 h2 => by rw [getD_begun (by omega) _ h2]; simp; omega⟩
  have hjs : j < ops.size := (Array.getElem?_eq_some_iff.1 hj).1
  rw [getD_begun (by omega) _ hjs, decide_eq_true_eq] at hl
  have h1 := List.all_eq_true.1 hh j (List.mem_range.2 hl)
  simp only [hj] at h1
  have h2 := Array.all_eq_true_iff_forall_mem.1 h1 e he
  simp only [hb, Bool.not_true, Bool.false_or, decide_eq_true_eq] at h2
  rw [getD_begun (by omega) _ (by omega)]
  simpa using h2
def okB (md : Region.Mode) (ops : Array Oper) (m n : Nat) : Bool :=
  Region.noSelect ops && decide (n < ops.size) && decide (m ≤ n) && shut md ops m && sinks md ops m n && Region.chainB md ops n && Region.lexHead md ops (ops.size - n) (n - m) m (begun ops m)
/-- Behind the first m. -/
theorem behind {Q : Exit → Act → World → Prop} {a : Act} {w : World} {l : List Oper} (hB : okB md l.toArray m n = true) (hC : C w)
    (h : wpQuiet P l.toArray C (fun a' => ∀ w', C w' → wpList P l.toArray Q (l.drop n) a' w') ((l.take n).drop m) a) : wpAny P md l.toArray Q (l.length - m) (begun l.toArray m) a w := by
  simp only [okB, Bool.and_eq_true, decide_eq_true_eq] at hB
  obtain ⟨⟨⟨⟨⟨⟨hsel, hn⟩, hm⟩, hh⟩, hs⟩, hc⟩, hlex⟩ := hB
  have hn' : n < l.length := by simpa using hn
  have htl : ((l.take n).drop m).length = n - m := by simp; omega
  have hdl : (l.drop n).length = l.toArray.size - n := by simp
  have H := lex (md := md) (g := l.toArray.size - n) hsel hs hc hn ((l.take n).drop m) m _ a (fun j hj => by
    rw [htl] at hj
    rw [List.getElem?_drop, List.getElem?_take, if_pos (by omega)]
    simp) (by rw [htl]; omega) (inv_begun hm hn hh) (by rw [htl]; exact hlex) h
  have := wpAny_of (Q := Q) (g := l.toArray.size - n) (fun L a' w' hw' hL => by
    have := wpAny_of_seq (md := md) (Q' := Q) (l.drop n) n L a' w' (fun j => by simp [List.getElem?_drop]) (by rw [hdl]; exact hL.1) (hL.2 w' hw')
    rwa [hdl] at this) _ _ _ _ hC H
  rwa [htl, show n - m + (l.toArray.size - n) = l.length - m by simp; omega] at this
/-- **No pure ones ahead.** -/
theorem region {id : Nat} {Q : Exit → Act → World → Prop} {a : Act} {w : World} {l : List Oper} (B n : Nat) (hm : P.follows .mixedOrders = true) (hB : okB .any l.toArray 0 n = true)
    (h : wpQuiet P l.toArray (fun w' => ∃ p : QB.By B w, w' = p.world) (fun a' => ∀ w', (∃ p : QB.By B w, w' = p.world) → wpList P l.toArray Q (l.drop n) a' w') (l.take n) a) : (Code.region id l.toArray true).wp P Q a w := by
  have := behind (C := fun w' => ∃ p : QB.By B w, w' = p.world) (w := w.drew) (md := .any) (Q := Q) hB ⟨⟨w.drew, (Below.refl _ _).drew⟩, rfl⟩ (by simpa using h)
  refine wp_region_any hm ?_
  simpa [begun] using this
/-- **One pure operation ahead**: a variable's value, a constant. -/
theorem region1 {id : Nat} {Q : Exit → Act → World → Prop} {a : Act} {w : World} {o : Oper} {l : List Oper} {v : Value} (B n : Nat) (hm : P.follows .mixedOrders = true) (hB : okB .any (o :: l).toArray 1 n = true) (hf : Region.free .any (o :: l).toArray (Array.replicate (l.length + 1) false) 0 = true)
    (hr : (Region.ready .any (o :: l).toArray (Array.replicate (l.length + 1) false)).contains 0 = true) (hQ : ∀ c a w, Q (.panic c) (a.put o.dst v) w → Q (.panic c) a w) (hy : Yields P (o :: l).toArray o v a)
    (h : wpQuiet P (o :: l).toArray (fun w' => ∃ p : QB.By B w, w' = p.world) (fun a' => ∀ w', (∃ p : QB.By B w, w' = p.world) → wpList P (o :: l).toArray Q ((o :: l).drop n) a' w') (((o :: l).take n).drop 1) (a.put o.dst v)) : (Code.region id (o :: l).toArray true).wp P Q a w := by
  have hs : Region.noSelect (o :: l).toArray = true := by
    simp only [okB, Bool.and_eq_true] at hB
    exact hB.1.1.1.1.1.1
  have := behind (C := fun w' => ∃ p : QB.By B w, w' = p.world) (w := w.drew) (md := .any) (Q := Q) hB ⟨⟨w.drew, (Below.refl _ _).drew⟩, rfl⟩ h
  refine wp_region_any hm ?_
  have e1 : (Array.replicate (l.length + 1) false).setIfInBounds 0 true = begun (o :: l).toArray 1 := by
    apply Array.ext'
    simp [begun, List.replicate_succ]
  simp only [List.size_toArray, List.length_cons]
  exact wpAny_take (i := 0) (by simp) hs hf hr hQ hy (by rw [e1]; simpa using this)
end
end Go.Proofs.Ytbpfknkbiaplpaa.QT
