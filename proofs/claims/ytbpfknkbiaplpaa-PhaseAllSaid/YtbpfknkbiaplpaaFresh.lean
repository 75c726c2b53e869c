/- The contracts of table.fresh at its five types of element: a copy in new memory. -/
import Derived.Test.YtbpfknkbiaplpaaRows
import Derived.Test.YtbpfknkbiaplpaaMayC
import Derived.Test.YtbpfknkbiaplpaaCopy
namespace Go.Proofs.Ytbpfknkbiaplpaa.Clone
open Go.ChangeShapes Go.WideShapes Go.ChangeAt Go.RowKit
open Tab Copy
open May (chain infoP infoG infoD infoR infoB)
set_option linter.unusedVariables false
set_option linter.unusedSimpArgs false
/-- What fresh hands back: a new block that holds just the elements. -/
def Fresh (e : TypeId) (cs : List Value) (n : Nat) (w : World) (r : Ending) (w' : World) : Prop :=
  r = .returned (.slice (some ⟨w.heap.size, 0, none⟩) n n) ∧ w'.heap[w.heap.size]? = some (.cells cs.toArray e (0, 0)) ∧ Below w.heap.size w w' ∧ w'.heap.size = w.heap.size + 1
theorem infoI : (Try.prog.info? 3).map (·.size) = some 1 := by kernel_rfl
theorem zI : (Try.prog.info? 3).map (fun i => (i.zero, i.size, i.bytes)) = some (some (.int .i64 0), 1, 8) := by kernel_rfl
theorem zG : (Try.prog.info? 85).map (fun i => (i.zero, i.size, i.bytes)) = some (some (.agg #[.slice none 0 0, .slice none 0 0]), 2, 48) := by kernel_rfl
theorem zD : (Try.prog.info? 72).map (fun i => (i.zero, i.size, i.bytes)) = some (some (.agg #[.int .i64 0, .float .f64 0, .float .f64 0, .float .f64 0, .float .f64 0, .int .i64 0, .int .i64 0]), 7, 56) := by kernel_rfl
theorem zR : (Try.prog.info? 75).map (fun i => (i.zero, i.size, i.bytes)) = some (some (.agg #[.int .i64 0, .int .i64 0, .int .i64 0, .int .i64 0, .int .i64 0, .int .i64 0, .int .i64 0, .int .i64 0, .int .i64 0, .int .i64 0, .int .i64 0]), 11, 88) := by kernel_rfl
theorem zB : (Try.prog.info? 79).map (fun i => (i.zero, i.size, i.bytes)) = some (some (.agg #[.int .i64 0, .int .i64 0]), 2, 16) := by kernel_rfl
theorem RowOf_flat {α : Type} {n : Nat} {enc : α → List Value} (he : ∀ v, (enc v).length = n) {w : World} {s : Sl} {l : List α} (h : RowOf n enc w s l) (h0 : 0 < l.length) : ∃ x, s.a = some x ∧ Lies w x (l.flatMap enc) := Copy.RowOf.flat he h h0
end Go.Proofs.Ytbpfknkbiaplpaa.Clone
