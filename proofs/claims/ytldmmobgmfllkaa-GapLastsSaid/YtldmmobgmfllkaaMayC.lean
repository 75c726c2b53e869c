/- The contracts of table.mayAll at its five types of element: are there at most so many, and may each be? -/
import Derived.Test.YtldmmobgmfllkaaRows
import Derived.Test.YtldmmobgmfllkaaMayB
import Derived.Test.YtldmmobgmfllkaaRow
import Derived.LoopTactic
namespace Go.Proofs.Ytldmmobgmfllkaa.May
open Go.ChangeShapes Go.WideShapes Go.ChangeAt Go.RowKit
open Tab
set_option linter.unusedVariables false
set_option linter.unusedSimpArgs false
theorem chain {a b c : World} (h : Below a.heap.size a b) (k : Below b.heap.size b c) : Below a.heap.size a c := h.trans (k.mono h.size)
theorem infoP : (Try.prog.info? 23).map (·.size) = some 13 := by kernel_rfl
theorem infoG : (Try.prog.info? 69).map (·.size) = some 2 := by kernel_rfl
theorem infoD : (Try.prog.info? 58).map (·.size) = some 7 := by kernel_rfl
theorem infoR : (Try.prog.info? 61).map (·.size) = some 11 := by kernel_rfl
theorem infoB : (Try.prog.info? 65).map (·.size) = some 2 := by kernel_rfl
end Go.Proofs.Ytldmmobgmfllkaa.May
