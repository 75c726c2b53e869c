/- The contracts of table.mayAll at its five types of element: are there at most so many, and may each be? -/
import Derived.Test.YtbmkkkkknofbaaaRows
import Derived.Test.YtbmkkkkknofbaaaMayB
import Derived.Test.YtbmkkkkknofbaaaRow
import Derived.LoopTactic
namespace Go.Proofs.Ytbmkkkkknofbaaa.May
open Go.ChangeShapes Go.WideShapes Go.ChangeAt Go.RowKit
open Tab
set_option linter.unusedVariables false
set_option linter.unusedSimpArgs false
theorem chain {a b c : World} (h : Below a.heap.size a b) (k : Below b.heap.size b c) : Below a.heap.size a c := h.trans (k.mono h.size)
theorem infoP : (Try.prog.info? 23).map (·.size) = some 13 := by kernel_rfl
end Go.Proofs.Ytbmkkkkknofbaaa.May
