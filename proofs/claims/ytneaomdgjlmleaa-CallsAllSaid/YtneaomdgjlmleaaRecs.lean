/- A slice of structs whose fields are all ints, as an argument: every field of every element as a cell. No program in it. -/
import Derived.Deep.Slices
import Derived.ChangeSame
import Derived.Below
namespace Go.Proofs.Ytneaomdgjlmleaa.Recs
open Go Go.ChangeShapes Go.WideShapes Go.Deep

/-- Every field is one cell, an int, and lies at its own number. -/
def allInts (P : Program) (fs : Array Field) : Bool := (List.range fs.size).all fun j => match fs[j]? with
  | some f => decide (f.offset = j) && decide (P.cellsOf f.type = 1) && (match P.underlying f.type with | some (.int .i64) => true | _ => false)
  | none => false
theorem allInts_at {P : Program} {fs : Array Field} (h : allInts P fs = true) {j : Nat} {f : Field} (hj : fs[j]? = some f) : f.offset = j ∧ P.cellsOf f.type = 1 ∧ P.underlying f.type = some (.int .i64) := by
  have h1 := List.all_eq_true.1 h j (List.mem_range.2 (Array.getElem?_eq_some_iff.1 hj).1)
  simp only [hj, Bool.and_eq_true, decide_eq_true_eq] at h1
  refine ⟨h1.1.1, h1.1.2, ?_⟩
  have h2 := h1.2
  split at h2
  · assumption
  · cases h2
theorem add_two (x : Addr) (p i : Nat) : (x.add p).add i = x.add (p + i) := by
  unfold Addr.add
  by_cases hp : p = 0
  · subst hp; simp
  · by_cases hi : i = 0
    · subst hi; simp
    · simp [hp, hi, show ¬ (p + i = 0) by omega, Nat.add_assoc]
/-- What the walk is told: it is nil, or element i's field j is Z i j. -/
def IsRecs (n : Nat) (w : World) (a : Option Addr) (len cap : Nat) (Z : Nat → Nat → Int) : Prop :=
  (a = none ∧ len = 0 ∧ cap = 0) ∨
  ∃ x, a = some x ∧ len ≤ cap ∧ cap ≤ maxLen ∧ ∀ i, i < len → ∀ j, j < n → w.cell? (x.add (i * n + j)) = some (.int .i64 (Z i j)) ∧ (Lit.int .i64 (Z i j)).wf = true

def IsFlts (w : World) (a : Option Addr) (len cap : Nat) (Z : Nat → Nat) : Prop :=
  (a = none ∧ len = 0 ∧ cap = 0) ∨
  ∃ x, a = some x ∧ len ≤ cap ∧ cap ≤ maxLen ∧ ∀ i, i < len → w.cell? (x.add i) = some (.float .f64 (Z i)) ∧ (Lit.float .f64 (Z i)).wf = true

section
variable {H : Type} {enc : TypeId × Value → H} {P : Program} {w : World} {base : Nat} {spare : Nat → Bool} {held : Bool}
theorem open_recs {t e : TypeId} {fs : Array Field} {fuel : Nat} {a : Option Addr} {len cap : Nat} {x : DataW H × List MemPlace} (ht : P.underlying t = some (.slice e)) (he : P.underlying e = some (.struct fs))
    (hf : allInts P fs = true) (hC : P.cellsOf e = fs.size) (h : DataW.trod enc P w base spare held fuel t [.slice a len cap] = some x) : ∃ Z, IsRecs fs.size w a len cap Z := by
  rcases Deep.open_slice ht h with ⟨h0, _⟩ | ⟨y, len', cap', m, n, D, Pl, hcs, _, hl, hm, hmm, _, hx⟩
  · simp only [List.cons.injEq, Value.slice.injEq, and_true] at h0
    exact ⟨fun _ _ => 0, .inl ⟨h0.1, h0.2.1, h0.2.2⟩⟩
  · simp only [List.cons.injEq, Value.slice.injEq, and_true] at hcs
    obtain ⟨rfl, rfl, rfl⟩ := hcs
    have hlm : len ≤ m := by rw [hmm]; split <;> omega
    have each : ∀ i j, ∃ z : Int, i < len → j < fs.size → w.cell? (y.add (i * fs.size + j)) = some (.int .i64 z) ∧ (Lit.int .i64 z).wf = true := by
      intro i j
      by_cases hi : i < len
      · by_cases hj : j < fs.size
        · obtain ⟨cs', h1, h2⟩ := hx i (by omega)
          rw [hC] at h1
          obtain ⟨_, hlen, hcell⟩ := World.cells?_some h1
          obtain ⟨xs, n', _, _, _, hlx, hfld⟩ := DataW.trod_struct he h2
          have hfj : fs[j]? = some fs[j] := Array.getElem?_eq_getElem hj
          obtain ⟨ho, hc1, hu⟩ := allInts_at hf hfj
          have h3 := hfld j _ hfj
          rw [ho, hc1] at h3
          have h4 : (cs'.drop j).take 1 = [cs'[j]'(by omega)] := by
            rw [List.drop_eq_getElem_cons (by omega)]; rfl
          rw [h4, List.getElem?_eq_getElem (by omega)] at h3
          obtain ⟨z, hz, _, hwf⟩ := DataW.trod_int hu h3
          refine ⟨z, fun _ _ => ⟨?_, hwf⟩⟩
          have h5 := hcell j hj
          rw [add_two, List.getElem?_eq_getElem (by omega)] at h5
          rw [h5]
          simp only [List.cons.injEq, and_true] at hz
          rw [hz]
        · exact ⟨0, fun _ h => absurd h hj⟩
      · exact ⟨0, fun h => absurd h hi⟩
    exact ⟨fun i j => Classical.choose (each i j), .inr ⟨y, rfl, hl, hm, fun i hi j hj => Classical.choose_spec (each i j) hi hj⟩⟩

theorem trod_flt {t : TypeId} {fuel : Nat} {v : Value} {x : DataW H × List MemPlace} (ht : P.underlying t = some (.float .f64)) (h : DataW.trod enc P w base spare held fuel t [v] = some x) : ∃ b, v = .float .f64 b ∧ (Lit.float .f64 b).wf = true := by
  cases fuel with
  | zero => simp [DataW.trod] at h
  | succ n =>
    unfold DataW.trod at h
    rw [ht] at h
    split at h <;> simp_all
theorem open_flts {t e : TypeId} {fuel : Nat} {a : Option Addr} {len cap : Nat} {x : DataW H × List MemPlace} (ht : P.underlying t = some (.slice e)) (he : P.underlying e = some (.float .f64)) (hc : P.cellsOf e = 1)
    (h : DataW.trod enc P w base spare held fuel t [.slice a len cap] = some x) : ∃ Z, IsFlts w a len cap Z := by
  rcases Deep.open_slice1 ht hc h with ⟨h0, _⟩ | ⟨y, len', cap', m, n, V, D, Pl, hcs, _, hl, hm, hmm, _, hx⟩
  · simp only [List.cons.injEq, Value.slice.injEq, and_true] at h0
    exact ⟨fun _ => 0, .inl ⟨h0.1, h0.2.1, h0.2.2⟩⟩
  · simp only [List.cons.injEq, Value.slice.injEq, and_true] at hcs
    obtain ⟨rfl, rfl, rfl⟩ := hcs
    have hlm : len ≤ m := by rw [hmm]; split <;> omega
    have each : ∀ i, ∃ z : Nat, i < len → w.cell? (y.add i) = some (.float .f64 z) ∧ (Lit.float .f64 z).wf = true := by
      intro i
      by_cases hi : i < len
      · obtain ⟨h1, h2⟩ := hx i (by omega)
        obtain ⟨b, hb, hwf⟩ := trod_flt he h2
        exact ⟨b, fun _ => ⟨by rw [h1, hb], hwf⟩⟩
      · exact ⟨0, fun h => absurd h hi⟩
    exact ⟨fun i => Classical.choose (each i), .inr ⟨y, rfl, hl, hm, fun i hi => Classical.choose_spec (each i) hi⟩⟩
end
end Go.Proofs.Ytneaomdgjlmleaa.Recs
