/-
  NARROWER THAN 'FOR EVERY INPUT', by the rows' own cells (each row's printed sentence says how): TransitAll: laid · TransitSteps: laid · TransitLocks: laid · TransitBudget: laid · TransitFair: laid.
  DERIVED. THE GIVEN ROWS OF THIS SEAT. 5 by the template 'for every input the law returns true; each argument reads behind the call as it read before'; 0 by the template 'total and deterministic' (their statements: YtkccepdifgldeaaDoorTotals.lean).
  GIVEN WITH THE SEED: the statements are not yours to turn. If you find one false, say at which input.
  Laid BY PROGRAM, IN A SANDBOX (cutbox-rows.mjs): the forced cells as the released guide's own fill.sh prints them over the translation 3854eea53b270246… (all of the seat's roots in one cut). By AI agents, Wed Nov 11 2026. No macro, syntax, notation, axiom, sorry.
-/
import Derived.Test.YtkccepdifgldeaaDoorChecked
import GoSem.Claim
import GoSem.ClaimJoined
import GoSem.ClaimMapViews
import Derived.JoinedTies
import Derived.KernelRfl
namespace Go.Proofs.YtkccepdifgldeaaDoor
/- THE CELL 'sum', in the pinned program and in every row, IS THE sha256 OF THE DUMP (.gsa) THAT YtkccepdifgldeaaDoorProg.lean LOADS. Nothing in Lean hashes anything: it is a label: what it is worth is what the hold of that sum in a sandbox is worth. -/
noncomputable def Tryd.pinned : Pinned := { name := "ytkccepdifgldeaadoor", sum := "3854eea53b270246f2d3d33c3a71b32d84b78425cc4498f7908440014e9c1364", checked := Tryd.checked }
namespace Rows
def none {H : Type} : Left H := { results := [], args := [] }

/- WHAT THE LISTED PACKAGE-LEVEL VARIABLES READ AS WHEN THE CALL BEGINS. Each datum BY PROGRAM (the guide's laid-datum.mjs) off the statement by which the dump's own 'gosem.cut.vars' lays the variable. In a bare row this is a premise. The card (YtkccepdifgldeaaDoorCards.lean) ties it to the program's text. -/
def laid_math_bits_deBruijn32tab {H : Type} : DataW H := .agg [.lit (.int .u8 0), .lit (.int .u8 1), .lit (.int .u8 28), .lit (.int .u8 2), .lit (.int .u8 29), .lit (.int .u8 14), .lit (.int .u8 24), .lit (.int .u8 3), .lit (.int .u8 30), .lit (.int .u8 22), .lit (.int .u8 20), .lit (.int .u8 15), .lit (.int .u8 25), .lit (.int .u8 17), .lit (.int .u8 4), .lit (.int .u8 8), .lit (.int .u8 31), .lit (.int .u8 27), .lit (.int .u8 13), .lit (.int .u8 23), .lit (.int .u8 21), .lit (.int .u8 19), .lit (.int .u8 16), .lit (.int .u8 7), .lit (.int .u8 26), .lit (.int .u8 12), .lit (.int .u8 18), .lit (.int .u8 6), .lit (.int .u8 11), .lit (.int .u8 5), .lit (.int .u8 10), .lit (.int .u8 9)]
def laid_math_bits_deBruijn64tab {H : Type} : DataW H := .agg [.lit (.int .u8 0), .lit (.int .u8 1), .lit (.int .u8 56), .lit (.int .u8 2), .lit (.int .u8 57), .lit (.int .u8 49), .lit (.int .u8 28), .lit (.int .u8 3), .lit (.int .u8 61), .lit (.int .u8 58), .lit (.int .u8 42), .lit (.int .u8 50), .lit (.int .u8 38), .lit (.int .u8 29), .lit (.int .u8 17), .lit (.int .u8 4), .lit (.int .u8 62), .lit (.int .u8 47), .lit (.int .u8 59), .lit (.int .u8 36), .lit (.int .u8 45), .lit (.int .u8 43), .lit (.int .u8 51), .lit (.int .u8 22), .lit (.int .u8 53), .lit (.int .u8 39), .lit (.int .u8 33), .lit (.int .u8 30), .lit (.int .u8 24), .lit (.int .u8 18), .lit (.int .u8 12), .lit (.int .u8 5), .lit (.int .u8 63), .lit (.int .u8 55), .lit (.int .u8 48), .lit (.int .u8 27), .lit (.int .u8 60), .lit (.int .u8 41), .lit (.int .u8 37), .lit (.int .u8 16), .lit (.int .u8 46), .lit (.int .u8 35), .lit (.int .u8 44), .lit (.int .u8 21), .lit (.int .u8 52), .lit (.int .u8 32), .lit (.int .u8 23), .lit (.int .u8 11), .lit (.int .u8 54), .lit (.int .u8 26), .lit (.int .u8 40), .lit (.int .u8 15), .lit (.int .u8 34), .lit (.int .u8 20), .lit (.int .u8 31), .lit (.int .u8 10), .lit (.int .u8 25), .lit (.int .u8 14), .lit (.int .u8 19), .lit (.int .u8 9), .lit (.int .u8 13), .lit (.int .u8 8), .lit (.int .u8 7), .lit (.int .u8 6)]

/-- 'crossbucklaw20.TransitAll': WHATEVER THE INPUT: true; the input reads as it did. -/
def transitAllSpec : ChangeSpec := { name := "transitAll", fn := fun _ => fun
  | [d1, d2, d3, d4] => { results := [.lit (.bool true)], args := [d1, d2, d3, d4] }
  | _ => none }
def transitAllRow : OpenClaim := { program := "ytkccepdifgldeaadoor", sum := "3854eea53b270246f2d3d33c3a71b32d84b78425cc4498f7908440014e9c1364", func := "crossbuck/crossbucklaw20.TransitAll", spec := "transitAll", unfollowed := true, recurses := true, named := ["math/bits.deBruijn32tab", "math/bits.deBruijn64tab"], apart := false, laid := [("math/bits.deBruijn32tab", laid_math_bits_deBruijn32tab), ("math/bits.deBruijn64tab", laid_math_bits_deBruijn64tab)] }
def TransitAllSaid : Prop := transitAllRow.holds Tryd.pinned (OpenSpec.ofChange transitAllSpec)

/-- ITS FALSE NEIGHBOUR: 'it returns false'. Refute it at one input. -/
def transitAllWrong : ChangeSpec := { name := "transitAll", fn := fun _ => fun
  | [d1, d2, d3, d4] => { results := [.lit (.bool false)], args := [d1, d2, d3, d4] }
  | _ => none }
def TransitAllWrongFalsely : Prop := transitAllRow.holds Tryd.pinned (OpenSpec.ofChange transitAllWrong)

/-- 'crossbucklaw20.TransitSteps': WHATEVER THE INPUT: true; the input reads as it did. -/
def transitStepsSpec : ChangeSpec := { name := "transitSteps", fn := fun _ => fun
  | [d1, d2, d3] => { results := [.lit (.bool true)], args := [d1, d2, d3] }
  | _ => none }
def transitStepsRow : OpenClaim := { program := "ytkccepdifgldeaadoor", sum := "3854eea53b270246f2d3d33c3a71b32d84b78425cc4498f7908440014e9c1364", func := "crossbuck/crossbucklaw20.TransitSteps", spec := "transitSteps", unfollowed := true, recurses := true, named := ["math/bits.deBruijn32tab", "math/bits.deBruijn64tab"], apart := false, laid := [("math/bits.deBruijn32tab", laid_math_bits_deBruijn32tab), ("math/bits.deBruijn64tab", laid_math_bits_deBruijn64tab)] }
def TransitStepsSaid : Prop := transitStepsRow.holds Tryd.pinned (OpenSpec.ofChange transitStepsSpec)

/-- ITS FALSE NEIGHBOUR: 'it returns false'. Refute it at one input. -/
def transitStepsWrong : ChangeSpec := { name := "transitSteps", fn := fun _ => fun
  | [d1, d2, d3] => { results := [.lit (.bool false)], args := [d1, d2, d3] }
  | _ => none }
def TransitStepsWrongFalsely : Prop := transitStepsRow.holds Tryd.pinned (OpenSpec.ofChange transitStepsWrong)

/-- 'crossbucklaw20.TransitLocks': WHATEVER THE INPUT: true; the input reads as it did. -/
def transitLocksSpec : ChangeSpec := { name := "transitLocks", fn := fun _ => fun
  | [d1, d2] => { results := [.lit (.bool true)], args := [d1, d2] }
  | _ => none }
def transitLocksRow : OpenClaim := { program := "ytkccepdifgldeaadoor", sum := "3854eea53b270246f2d3d33c3a71b32d84b78425cc4498f7908440014e9c1364", func := "crossbuck/crossbucklaw20.TransitLocks", spec := "transitLocks", unfollowed := true, recurses := true, named := ["math/bits.deBruijn32tab", "math/bits.deBruijn64tab"], apart := false, laid := [("math/bits.deBruijn32tab", laid_math_bits_deBruijn32tab), ("math/bits.deBruijn64tab", laid_math_bits_deBruijn64tab)] }
def TransitLocksSaid : Prop := transitLocksRow.holds Tryd.pinned (OpenSpec.ofChange transitLocksSpec)

/-- ITS FALSE NEIGHBOUR: 'it returns false'. Refute it at one input. -/
def transitLocksWrong : ChangeSpec := { name := "transitLocks", fn := fun _ => fun
  | [d1, d2] => { results := [.lit (.bool false)], args := [d1, d2] }
  | _ => none }
def TransitLocksWrongFalsely : Prop := transitLocksRow.holds Tryd.pinned (OpenSpec.ofChange transitLocksWrong)

/-- 'crossbucklaw20.TransitBudget': WHATEVER THE INPUT: true; the input reads as it did. -/
def transitBudgetSpec : ChangeSpec := { name := "transitBudget", fn := fun _ => fun
  | [d1, d2, d3] => { results := [.lit (.bool true)], args := [d1, d2, d3] }
  | _ => none }
def transitBudgetRow : OpenClaim := { program := "ytkccepdifgldeaadoor", sum := "3854eea53b270246f2d3d33c3a71b32d84b78425cc4498f7908440014e9c1364", func := "crossbuck/crossbucklaw20.TransitBudget", spec := "transitBudget", unfollowed := true, recurses := true, named := ["math/bits.deBruijn32tab", "math/bits.deBruijn64tab"], apart := false, laid := [("math/bits.deBruijn32tab", laid_math_bits_deBruijn32tab), ("math/bits.deBruijn64tab", laid_math_bits_deBruijn64tab)] }
def TransitBudgetSaid : Prop := transitBudgetRow.holds Tryd.pinned (OpenSpec.ofChange transitBudgetSpec)

/-- ITS FALSE NEIGHBOUR: 'it returns false'. Refute it at one input. -/
def transitBudgetWrong : ChangeSpec := { name := "transitBudget", fn := fun _ => fun
  | [d1, d2, d3] => { results := [.lit (.bool false)], args := [d1, d2, d3] }
  | _ => none }
def TransitBudgetWrongFalsely : Prop := transitBudgetRow.holds Tryd.pinned (OpenSpec.ofChange transitBudgetWrong)

/-- 'crossbucklaw20.TransitFair': WHATEVER THE INPUT: true; the input reads as it did. -/
def transitFairSpec : ChangeSpec := { name := "transitFair", fn := fun _ => fun
  | [d1, d2, d3, d4] => { results := [.lit (.bool true)], args := [d1, d2, d3, d4] }
  | _ => none }
def transitFairRow : OpenClaim := { program := "ytkccepdifgldeaadoor", sum := "3854eea53b270246f2d3d33c3a71b32d84b78425cc4498f7908440014e9c1364", func := "crossbuck/crossbucklaw20.TransitFair", spec := "transitFair", unfollowed := true, recurses := true, named := ["math/bits.deBruijn32tab", "math/bits.deBruijn64tab"], apart := false, laid := [("math/bits.deBruijn32tab", laid_math_bits_deBruijn32tab), ("math/bits.deBruijn64tab", laid_math_bits_deBruijn64tab)] }
def TransitFairSaid : Prop := transitFairRow.holds Tryd.pinned (OpenSpec.ofChange transitFairSpec)

/-- ITS FALSE NEIGHBOUR: 'it returns false'. Refute it at one input. -/
def transitFairWrong : ChangeSpec := { name := "transitFair", fn := fun _ => fun
  | [d1, d2, d3, d4] => { results := [.lit (.bool false)], args := [d1, d2, d3, d4] }
  | _ => none }
def TransitFairWrongFalsely : Prop := transitFairRow.holds Tryd.pinned (OpenSpec.ofChange transitFairWrong)

/- THE SECOND FORM. 'bulk': how many values and letters a reading holds, each counted each time it is reached (what is shared counts as often as it is met; a slice's spare places count too). A statement '..UptoSaid' is the law's where the arguments, and the package variables that the reading takes, are together of bulk at most 1048576: NARROWER than '..Said'. Prove '..Said' where nothing that the law and all that it calls make is longer than what came in: it says more and counts as full. Else prove '..UptoSaid'. A law counts once. -/
mutual
def uptoBulk {H : Type} : DataW H → Nat
  | .lit (.string bytes) => bytes.length + 1
  | .lit _ => 1
  | .nil => 1
  | .ptr d => uptoBulk d + 1
  | .slice elems spare => uptoBulkAll elems + uptoBulkAll spare + 1
  | .agg parts => uptoBulkAll parts + 1
  | .iface _ d => uptoBulk d + 1
  | .map entries => uptoBulkEntries entries + 1
  | .held _ => 1
def uptoBulkAll {H : Type} : List (DataW H) → Nat
  | [] => 0
  | d :: r => uptoBulk d + uptoBulkAll r
def uptoBulkEntries {H : Type} : List (Lit × DataW H) → Nat
  | [] => 0
  | x :: r => uptoBulkEntry x + uptoBulkEntries r
def uptoBulkEntry {H : Type} : Lit × DataW H → Nat
  | (.string bytes, d) => bytes.length + uptoBulk d + 1
  | (_, d) => uptoBulk d + 1
 end
def uptoSmall : (H : Type) → List (DataW H) → Bool := fun _ ds => decide (uptoBulkAll ds ≤ 1048576)
def OpenSpec.upto (s : _root_.Go.ChangeSpec) : _root_.Go.OpenSpec := { _root_.Go.OpenSpec.ofChange s with cond := some uptoSmall }

/-- 'crossbucklaw20.TransitAll', WHERE WHAT IT READS IS OF BULK AT MOST 1048576: true; the input reads as it did. -/
def transitAllUptoRow : OpenClaim := { program := "ytkccepdifgldeaadoor", sum := "3854eea53b270246f2d3d33c3a71b32d84b78425cc4498f7908440014e9c1364", func := "crossbuck/crossbucklaw20.TransitAll", spec := "transitAll", unfollowed := true, recurses := true, named := ["math/bits.deBruijn32tab", "math/bits.deBruijn64tab"], apart := false, laid := [("math/bits.deBruijn32tab", laid_math_bits_deBruijn32tab), ("math/bits.deBruijn64tab", laid_math_bits_deBruijn64tab)], narrowed := true }
def TransitAllUptoSaid : Prop := transitAllUptoRow.holds Tryd.pinned (OpenSpec.upto transitAllSpec)

/-- 'crossbucklaw20.TransitSteps', WHERE WHAT IT READS IS OF BULK AT MOST 1048576: true; the input reads as it did. -/
def transitStepsUptoRow : OpenClaim := { program := "ytkccepdifgldeaadoor", sum := "3854eea53b270246f2d3d33c3a71b32d84b78425cc4498f7908440014e9c1364", func := "crossbuck/crossbucklaw20.TransitSteps", spec := "transitSteps", unfollowed := true, recurses := true, named := ["math/bits.deBruijn32tab", "math/bits.deBruijn64tab"], apart := false, laid := [("math/bits.deBruijn32tab", laid_math_bits_deBruijn32tab), ("math/bits.deBruijn64tab", laid_math_bits_deBruijn64tab)], narrowed := true }
def TransitStepsUptoSaid : Prop := transitStepsUptoRow.holds Tryd.pinned (OpenSpec.upto transitStepsSpec)

/-- 'crossbucklaw20.TransitLocks', WHERE WHAT IT READS IS OF BULK AT MOST 1048576: true; the input reads as it did. -/
def transitLocksUptoRow : OpenClaim := { program := "ytkccepdifgldeaadoor", sum := "3854eea53b270246f2d3d33c3a71b32d84b78425cc4498f7908440014e9c1364", func := "crossbuck/crossbucklaw20.TransitLocks", spec := "transitLocks", unfollowed := true, recurses := true, named := ["math/bits.deBruijn32tab", "math/bits.deBruijn64tab"], apart := false, laid := [("math/bits.deBruijn32tab", laid_math_bits_deBruijn32tab), ("math/bits.deBruijn64tab", laid_math_bits_deBruijn64tab)], narrowed := true }
def TransitLocksUptoSaid : Prop := transitLocksUptoRow.holds Tryd.pinned (OpenSpec.upto transitLocksSpec)

/-- 'crossbucklaw20.TransitBudget', WHERE WHAT IT READS IS OF BULK AT MOST 1048576: true; the input reads as it did. -/
def transitBudgetUptoRow : OpenClaim := { program := "ytkccepdifgldeaadoor", sum := "3854eea53b270246f2d3d33c3a71b32d84b78425cc4498f7908440014e9c1364", func := "crossbuck/crossbucklaw20.TransitBudget", spec := "transitBudget", unfollowed := true, recurses := true, named := ["math/bits.deBruijn32tab", "math/bits.deBruijn64tab"], apart := false, laid := [("math/bits.deBruijn32tab", laid_math_bits_deBruijn32tab), ("math/bits.deBruijn64tab", laid_math_bits_deBruijn64tab)], narrowed := true }
def TransitBudgetUptoSaid : Prop := transitBudgetUptoRow.holds Tryd.pinned (OpenSpec.upto transitBudgetSpec)

/-- 'crossbucklaw20.TransitFair', WHERE WHAT IT READS IS OF BULK AT MOST 1048576: true; the input reads as it did. -/
def transitFairUptoRow : OpenClaim := { program := "ytkccepdifgldeaadoor", sum := "3854eea53b270246f2d3d33c3a71b32d84b78425cc4498f7908440014e9c1364", func := "crossbuck/crossbucklaw20.TransitFair", spec := "transitFair", unfollowed := true, recurses := true, named := ["math/bits.deBruijn32tab", "math/bits.deBruijn64tab"], apart := false, laid := [("math/bits.deBruijn32tab", laid_math_bits_deBruijn32tab), ("math/bits.deBruijn64tab", laid_math_bits_deBruijn64tab)], narrowed := true }
def TransitFairUptoSaid : Prop := transitFairUptoRow.holds Tryd.pinned (OpenSpec.upto transitFairSpec)

end Rows
end Go.Proofs.YtkccepdifgldeaaDoor
