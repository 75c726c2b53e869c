/- The contracts of mayLevel, maySeconds, of the document's Level and Seconds, of Signbit and of a float's bits. -/
import Derived.Test.YtbmkkkkknofbaaaRows
import Derived.Test.YtbmkkkkknofbaaaSk
namespace Go.Proofs.Ytbmkkkkknofbaaa.MayF
open Go.ChangeShapes Go.WideShapes Go.ChangeAt Go.RowKit Go.Proofs.Fl
open Secs
set_option linter.unusedVariables false
set_option linter.unusedSimpArgs false

/-- A float's sign, as Signbit asks for it. -/
def neg (x : Nat) : Bool := decide (wrap64 (x : Int) < 0)
/-- A level. -/
def level (x : Nat) : Bool := !isn x && decide (0 < key x) && decide (key x ≤ 4696837146684686336)
theorem keyM : key 4696837146684686336 = 4696837146684686336 := by decide
theorem isnM : isn 4696837146684686336 = false := by decide
/-- Seconds. -/
def span (x : Nat) : Bool := ok x && !neg x
end Go.Proofs.Ytbmkkkkknofbaaa.MayF
