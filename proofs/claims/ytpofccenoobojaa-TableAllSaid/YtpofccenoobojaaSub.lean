/- A part of a function's code by its region's number: so a region can be walked in a theorem of its own. -/
import Derived.Test.YtpofccenoobojaaRows
import Derived.WalkKit
namespace Go.Proofs.Ytpofccenoobojaa.CodeAt
open Go
def findR (id : Nat) : Code → Option Code
  | .region i ops d => if i = id then some (.region i ops d) else none
  | .seq a b => (findR id a).or (findR id b)
  | .cond _ a b => (findR id a).or (findR id b)
  | .block _ b => findR id b
  | .loop b => findR id b
  | .scope b => findR id b
  | _ => none
/-- Region number id of a function. -/
def rg (id : Nat) (f : Func) : Code := ((f.body.bind (findR id)).getD .skip)
end Go.Proofs.Ytpofccenoobojaa.CodeAt
