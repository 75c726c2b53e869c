/- The contracts of table.bits, single, sameDetector and of sameList at detectors. -/
import Derived.Test.YtbpfknkbiaplpaaRows
import Derived.Test.YtbpfknkbiaplpaaSameC
import Derived.Test.YtbpfknkbiaplpaaMayD
import Derived.Test.YtbpfknkbiaplpaaSk
import Derived.Test.YtbpfknkbiaplpaaQB
import Derived.StillTailTactics
import Derived.Deep.Cut
namespace Go.Proofs.Ytbpfknkbiaplpaa.Same
open Go.ChangeShapes Go.WideShapes Go.ChangeAt Go.RowKit
open Tab
open May (ret_bool chain take_succ' infoP infoG infoD infoR infoB row_new St)
set_option linter.unusedVariables false
set_option linter.unusedSimpArgs false
theorem below_setRow {B : Nat} {a w : World} (h : Below B a w) {g : Nat} (hg : B ≤ g) (cs : Array Value) : Below B a (w.setRow g cs) :=
  h.trans ⟨rfl, rfl, rfl, by simp [World.setRow], fun j hj => setRow_other _ _ _ _ (by omega)⟩
end Go.Proofs.Ytbpfknkbiaplpaa.Same
