/- The contracts of table.mayAll at its five types of element: are there at most so many, and may each be? -/
import Derived.Test.YtbpfknkbiaplpaaRows
import Derived.Test.YtbpfknkbiaplpaaMayB
import Derived.Test.YtbpfknkbiaplpaaRow
import Derived.LoopTactic
namespace Go.Proofs.Ytbpfknkbiaplpaa.May
open Go.ChangeShapes Go.WideShapes Go.ChangeAt Go.RowKit
open Tab
set_option linter.unusedVariables false
set_option linter.unusedSimpArgs false
theorem chain {a b c : World} (h : Below a.heap.size a b) (k : Below b.heap.size b c) : Below a.heap.size a c := h.trans (k.mono h.size)
theorem infoP : (Try.prog.info? 23).map (·.size) = some 13 := by kernel_rfl
theorem infoG : (Try.prog.info? 85).map (·.size) = some 2 := by kernel_rfl
theorem infoD : (Try.prog.info? 72).map (·.size) = some 7 := by kernel_rfl
theorem infoR : (Try.prog.info? 75).map (·.size) = some 11 := by kernel_rfl
theorem infoB : (Try.prog.info? 79).map (·.size) = some 2 := by kernel_rfl
end Go.Proofs.Ytbpfknkbiaplpaa.May
