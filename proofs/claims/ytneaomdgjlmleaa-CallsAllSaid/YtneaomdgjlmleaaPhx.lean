/- The array of phases by value, at one of its places; the front of a block. -/
import Derived.Test.YtneaomdgjlmleaaRows
import Derived.Test.YtneaomdgjlmleaaFlat
import Derived.Test.YtneaomdgjlmleaaMayE
namespace Go.Proofs.Ytneaomdgjlmleaa.Phx
open Go.ChangeShapes Go.WideShapes Go.ChangeAt Go.RowKit
open Tab
open May (infoP)
set_option linter.unusedVariables false
set_option linter.unusedSimpArgs false
theorem ph_len (l : List Ph) : (l.flatMap Ph.cells).length = l.length * 13 := by
  induction l with
  | nil => rfl
  | cons p l ih => rw [List.flatMap_cons, List.length_append, ih, List.length_cons, show p.cells.length = 13 from rfl]; omega
/-- The value of an array of phases, at one of its places. -/
theorem infoPs : (Try.prog.info? 24).map (·.size) = some 104 := by kernel_rfl
theorem cellsP : Try.prog.cellsOf 23 = 13 := by kernel_rfl
theorem rowP : Flat.rowT Try.prog 23 = true := by kernel_rfl
theorem infoPz : ∃ i, Try.prog.info? 23 = some i ∧ i.size = 13 := by
  have := infoP
  cases h : Try.prog.info? 23 with
  | none => rw [h] at this; simp at this
  | some i => rw [h] at this; exact ⟨i, rfl, by simpa using this⟩
theorem flat_take : ∀ {l : List Ph} {q : Nat} {u : Ph}, l[q]? = some u → ((l.flatMap Ph.cells).drop (q * 13)).take 13 = u.cells
  | [], q, u, h => by simp at h
  | p :: l, 0, u, h => by
    obtain rfl : p = u := by simpa using h
    rw [Nat.zero_mul, List.drop_zero, List.flatMap_cons]
    exact List.take_left' rfl
  | p :: l, q + 1, u, h => by
    rw [List.flatMap_cons, Nat.add_mul, Nat.one_mul, Nat.add_comm, List.drop_append, List.drop_of_length_le (by simp [Ph.cells]), List.nil_append, show 13 + q * 13 - p.cells.length = q * 13 by simp [Ph.cells]]
    exact flat_take (by simpa using h)
theorem idx_phase {l : List Ph} {q : Nat} {u : Ph} (hl : l.length = 8) (hu : l[q]? = some u) (w : World) :
    Sem.run Try.prog (Instr.index 24 (.agg (l.flatMap Ph.cells).toArray) (.int .i64 q)) w = .ok (.agg u.cells.toArray) w := by
  have hq : q < l.length := (List.getElem?_eq_some_iff.1 hu).1
  obtain ⟨i, hi, hs⟩ := infoPz
  have hp := Flat.run_part (P := Try.prog) w (t := 23) (d := _) Try.underlying23 (by rw [rowP]; simp) (l.flatMap Ph.cells) (q * 13) (by rw [cellsP, ph_len]; omega)
  rw [cellsP, Flat.vOf, if_pos rowP, flat_take hu] at hp
  unfold Instr.index
  have hc : 0 ≤ (q : Int) ∧ (q : Int) < 8 := by omega
  simp [run_underlying Try.underlying24, asIntOf]
  rw [if_pos (by omega)]
  first | exact hp | (rw [cellsP]; exact hp)
theorem lies_take {w : World} {b : Nat} {cs : Array Value} {t : TypeId} {fr : Nat × Nat} (hb : w.heap[b]? = some (.cells cs t fr)) (n : Nat) (l : List Value) (h : cs.toList.take n = l) : Lies w ⟨b, 0, none⟩ l := by
  intro j v hv
  rw [Addr.add_mid, Nat.zero_add, cell_of_row _ _ _ _ _ _ hb]
  subst h
  rw [List.getElem?_take] at hv
  split at hv
  · rwa [Array.getElem?_toList] at hv
  · cases hv
end Go.Proofs.Ytneaomdgjlmleaa.Phx
