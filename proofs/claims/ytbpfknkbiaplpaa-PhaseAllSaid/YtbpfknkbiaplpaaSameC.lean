/- The contracts of sameValue and sameList at rails, buses and groups, and of sameGroup. -/
import Derived.Test.YtbpfknkbiaplpaaRows
import Derived.Test.YtbpfknkbiaplpaaSameA
import Derived.Test.YtbpfknkbiaplpaaSameB
import Derived.Test.YtbpfknkbiaplpaaRow
import Derived.LoopTactic
namespace Go.Proofs.Ytbpfknkbiaplpaa.Same
open Go.ChangeShapes Go.WideShapes Go.ChangeAt Go.RowKit
open Tab
open May (ret_bool chain take_succ' infoP infoG infoD infoR infoB row_new)
set_option linter.unusedVariables false
set_option linter.unusedSimpArgs false

end Go.Proofs.Ytbpfknkbiaplpaa.Same
