/-
  No cell of these rows narrows 'for every input' (looked for: loops, veiled, ifaces, maps, wideKeys, modest, calm, conditions, laid).
  DERIVED. THE GIVEN ROWS OF THIS SEAT. 9 by the template 'for every input the law returns true; each argument reads behind the call as it read before'; 0 by the template 'total and deterministic' (their statements: YtjolhoilcibdfaaGreatTotals.lean).
  GIVEN WITH THE SEED: the statements are not yours to turn. If you find one false, say at which input.
  Laid BY PROGRAM, IN A SANDBOX (cutbox-rows.mjs): the forced cells as the released guide's own fill.sh prints them over the translation 0725512e9772df73… (all of the seat's roots in one cut). By AI agents, Wed Nov 11 2026. No macro, syntax, notation, axiom, sorry.
-/
import Derived.Test.YtjolhoilcibdfaaGreatChecked
import GoSem.Claim
import GoSem.ClaimJoined
import GoSem.ClaimMapViews
import Derived.JoinedTies
import Derived.KernelRfl
namespace Go.Proofs.YtjolhoilcibdfaaGreat
/- THE CELL 'sum', in the pinned program and in every row, IS THE sha256 OF THE DUMP (.gsa) THAT YtjolhoilcibdfaaGreatProg.lean LOADS. Nothing in Lean hashes anything: it is a label: what it is worth is what the hold of that sum in a sandbox is worth. -/
noncomputable def Tryz.pinned : Pinned := { name := "ytjolhoilcibdfaagreat", sum := "0725512e9772df73e9ae41b002275391e585232e9585e3da5aa09593b59d8ac6", checked := Tryz.checked }
namespace Rows
def none {H : Type} : Left H := { results := [], args := [] }

/-- 'crossbucklaw09.CheckPhase': WHATEVER THE INPUT: true; the input reads as it did. -/
def checkPhaseSpec : ChangeSpec := { name := "checkPhase", fn := fun _ => fun
  | [d1, d2, d3, d4, d5] => { results := [.lit (.bool true)], args := [d1, d2, d3, d4, d5] }
  | _ => none }
def checkPhaseRow : OpenClaim := { program := "ytjolhoilcibdfaagreat", sum := "0725512e9772df73e9ae41b002275391e585232e9585e3da5aa09593b59d8ac6", func := "crossbuck/crossbucklaw09.CheckPhase", spec := "checkPhase", inPlace := ["math.RoundToEven", "math.Float64bits"], unfollowed := true, recurses := true, apart := false }
def CheckPhaseSaid : Prop := checkPhaseRow.holds Tryz.pinned (OpenSpec.ofChange checkPhaseSpec)

/-- ITS FALSE NEIGHBOUR: 'it returns false'. Refute it at one input. -/
def checkPhaseWrong : ChangeSpec := { name := "checkPhase", fn := fun _ => fun
  | [d1, d2, d3, d4, d5] => { results := [.lit (.bool false)], args := [d1, d2, d3, d4, d5] }
  | _ => none }
def CheckPhaseWrongFalsely : Prop := checkPhaseRow.holds Tryz.pinned (OpenSpec.ofChange checkPhaseWrong)

/-- 'crossbucklaw09.CheckRows': WHATEVER THE INPUT: true; the input reads as it did. -/
def checkRowsSpec : ChangeSpec := { name := "checkRows", fn := fun _ => fun
  | [d1, d2, d3, d4] => { results := [.lit (.bool true)], args := [d1, d2, d3, d4] }
  | _ => none }
def checkRowsRow : OpenClaim := { program := "ytjolhoilcibdfaagreat", sum := "0725512e9772df73e9ae41b002275391e585232e9585e3da5aa09593b59d8ac6", func := "crossbuck/crossbucklaw09.CheckRows", spec := "checkRows", inPlace := ["math.RoundToEven", "math.Float64bits"], unfollowed := true, recurses := true, apart := false }
def CheckRowsSaid : Prop := checkRowsRow.holds Tryz.pinned (OpenSpec.ofChange checkRowsSpec)

/-- ITS FALSE NEIGHBOUR: 'it returns false'. Refute it at one input. -/
def checkRowsWrong : ChangeSpec := { name := "checkRows", fn := fun _ => fun
  | [d1, d2, d3, d4] => { results := [.lit (.bool false)], args := [d1, d2, d3, d4] }
  | _ => none }
def CheckRowsWrongFalsely : Prop := checkRowsRow.holds Tryz.pinned (OpenSpec.ofChange checkRowsWrong)

/-- 'crossbucklaw09.CheckRest': WHATEVER THE INPUT: true; the input reads as it did. -/
def checkRestSpec : ChangeSpec := { name := "checkRest", fn := fun _ => fun
  | [d1, d2, d3, d4, d5] => { results := [.lit (.bool true)], args := [d1, d2, d3, d4, d5] }
  | _ => none }
def checkRestRow : OpenClaim := { program := "ytjolhoilcibdfaagreat", sum := "0725512e9772df73e9ae41b002275391e585232e9585e3da5aa09593b59d8ac6", func := "crossbuck/crossbucklaw09.CheckRest", spec := "checkRest", inPlace := ["math.RoundToEven", "math.Float64bits"], unfollowed := true, recurses := true, apart := false }
def CheckRestSaid : Prop := checkRestRow.holds Tryz.pinned (OpenSpec.ofChange checkRestSpec)

/-- ITS FALSE NEIGHBOUR: 'it returns false'. Refute it at one input. -/
def checkRestWrong : ChangeSpec := { name := "checkRest", fn := fun _ => fun
  | [d1, d2, d3, d4, d5] => { results := [.lit (.bool false)], args := [d1, d2, d3, d4, d5] }
  | _ => none }
def CheckRestWrongFalsely : Prop := checkRestRow.holds Tryz.pinned (OpenSpec.ofChange checkRestWrong)

/-- 'crossbucklaw09.CheckBeside': WHATEVER THE INPUT: true; the input reads as it did. -/
def checkBesideSpec : ChangeSpec := { name := "checkBeside", fn := fun _ => fun
  | [d1, d2, d3] => { results := [.lit (.bool true)], args := [d1, d2, d3] }
  | _ => none }
def checkBesideRow : OpenClaim := { program := "ytjolhoilcibdfaagreat", sum := "0725512e9772df73e9ae41b002275391e585232e9585e3da5aa09593b59d8ac6", func := "crossbuck/crossbucklaw09.CheckBeside", spec := "checkBeside", inPlace := ["math.RoundToEven", "math.Float64bits"], unfollowed := true, recurses := true, apart := false }
def CheckBesideSaid : Prop := checkBesideRow.holds Tryz.pinned (OpenSpec.ofChange checkBesideSpec)

/-- ITS FALSE NEIGHBOUR: 'it returns false'. Refute it at one input. -/
def checkBesideWrong : ChangeSpec := { name := "checkBeside", fn := fun _ => fun
  | [d1, d2, d3] => { results := [.lit (.bool false)], args := [d1, d2, d3] }
  | _ => none }
def CheckBesideWrongFalsely : Prop := checkBesideRow.holds Tryz.pinned (OpenSpec.ofChange checkBesideWrong)

/-- 'crossbucklaw10.BoundParts': WHATEVER THE INPUT: true; the input reads as it did. -/
def boundPartsSpec : ChangeSpec := { name := "boundParts", fn := fun _ => fun
  | [d1, d2, d3, d4] => { results := [.lit (.bool true)], args := [d1, d2, d3, d4] }
  | _ => none }
def boundPartsRow : OpenClaim := { program := "ytjolhoilcibdfaagreat", sum := "0725512e9772df73e9ae41b002275391e585232e9585e3da5aa09593b59d8ac6", func := "crossbuck/crossbucklaw10.BoundParts", spec := "boundParts", inPlace := ["math.RoundToEven", "math.Float64bits"], unfollowed := true, recurses := true, apart := false }
def BoundPartsSaid : Prop := boundPartsRow.holds Tryz.pinned (OpenSpec.ofChange boundPartsSpec)

/-- ITS FALSE NEIGHBOUR: 'it returns false'. Refute it at one input. -/
def boundPartsWrong : ChangeSpec := { name := "boundParts", fn := fun _ => fun
  | [d1, d2, d3, d4] => { results := [.lit (.bool false)], args := [d1, d2, d3, d4] }
  | _ => none }
def BoundPartsWrongFalsely : Prop := boundPartsRow.holds Tryz.pinned (OpenSpec.ofChange boundPartsWrong)

/-- 'crossbucklaw10.BoundAll': WHATEVER THE INPUT: true; the input reads as it did. -/
def boundAllSpec : ChangeSpec := { name := "boundAll", fn := fun _ => fun
  | [d] => { results := [.lit (.bool true)], args := [d] }
  | _ => none }
def boundAllRow : OpenClaim := { program := "ytjolhoilcibdfaagreat", sum := "0725512e9772df73e9ae41b002275391e585232e9585e3da5aa09593b59d8ac6", func := "crossbuck/crossbucklaw10.BoundAll", spec := "boundAll", inPlace := ["math.RoundToEven", "math.Float64bits"], unfollowed := true, recurses := true, apart := false }
def BoundAllSaid : Prop := boundAllRow.holds Tryz.pinned (OpenSpec.ofChange boundAllSpec)

/-- ITS FALSE NEIGHBOUR: 'it returns false'. Refute it at one input. -/
def boundAllWrong : ChangeSpec := { name := "boundAll", fn := fun _ => fun
  | [d] => { results := [.lit (.bool false)], args := [d] }
  | _ => none }
def BoundAllWrongFalsely : Prop := boundAllRow.holds Tryz.pinned (OpenSpec.ofChange boundAllWrong)

/-- 'crossbucklaw10.BoundGood': WHATEVER THE INPUT: true; the input reads as it did. -/
def boundGoodSpec : ChangeSpec := { name := "boundGood", fn := fun _ => fun
  | [d1, d2, d3, d4] => { results := [.lit (.bool true)], args := [d1, d2, d3, d4] }
  | _ => none }
def boundGoodRow : OpenClaim := { program := "ytjolhoilcibdfaagreat", sum := "0725512e9772df73e9ae41b002275391e585232e9585e3da5aa09593b59d8ac6", func := "crossbuck/crossbucklaw10.BoundGood", spec := "boundGood", inPlace := ["math.RoundToEven", "math.Float64bits"], unfollowed := true, recurses := true, apart := false }
def BoundGoodSaid : Prop := boundGoodRow.holds Tryz.pinned (OpenSpec.ofChange boundGoodSpec)

/-- ITS FALSE NEIGHBOUR: 'it returns false'. Refute it at one input. -/
def boundGoodWrong : ChangeSpec := { name := "boundGood", fn := fun _ => fun
  | [d1, d2, d3, d4] => { results := [.lit (.bool false)], args := [d1, d2, d3, d4] }
  | _ => none }
def BoundGoodWrongFalsely : Prop := boundGoodRow.holds Tryz.pinned (OpenSpec.ofChange boundGoodWrong)

/-- 'crossbucklaw10.BoundSerial': WHATEVER THE INPUT: true; the input reads as it did. -/
def boundSerialSpec : ChangeSpec := { name := "boundSerial", fn := fun _ => fun
  | [d1, d2, d3] => { results := [.lit (.bool true)], args := [d1, d2, d3] }
  | _ => none }
def boundSerialRow : OpenClaim := { program := "ytjolhoilcibdfaagreat", sum := "0725512e9772df73e9ae41b002275391e585232e9585e3da5aa09593b59d8ac6", func := "crossbuck/crossbucklaw10.BoundSerial", spec := "boundSerial", inPlace := ["math.RoundToEven", "math.Float64bits"], unfollowed := true, recurses := true, apart := false }
def BoundSerialSaid : Prop := boundSerialRow.holds Tryz.pinned (OpenSpec.ofChange boundSerialSpec)

/-- ITS FALSE NEIGHBOUR: 'it returns false'. Refute it at one input. -/
def boundSerialWrong : ChangeSpec := { name := "boundSerial", fn := fun _ => fun
  | [d1, d2, d3] => { results := [.lit (.bool false)], args := [d1, d2, d3] }
  | _ => none }
def BoundSerialWrongFalsely : Prop := boundSerialRow.holds Tryz.pinned (OpenSpec.ofChange boundSerialWrong)

/-- 'crossbucklaw10.BoundMore': WHATEVER THE INPUT: true; the input reads as it did. -/
def boundMoreSpec : ChangeSpec := { name := "boundMore", fn := fun _ => fun
  | [d1, d2, d3, d4] => { results := [.lit (.bool true)], args := [d1, d2, d3, d4] }
  | _ => none }
def boundMoreRow : OpenClaim := { program := "ytjolhoilcibdfaagreat", sum := "0725512e9772df73e9ae41b002275391e585232e9585e3da5aa09593b59d8ac6", func := "crossbuck/crossbucklaw10.BoundMore", spec := "boundMore", inPlace := ["math.RoundToEven", "math.Float64bits"], unfollowed := true, recurses := true, apart := false }
def BoundMoreSaid : Prop := boundMoreRow.holds Tryz.pinned (OpenSpec.ofChange boundMoreSpec)

/-- ITS FALSE NEIGHBOUR: 'it returns false'. Refute it at one input. -/
def boundMoreWrong : ChangeSpec := { name := "boundMore", fn := fun _ => fun
  | [d1, d2, d3, d4] => { results := [.lit (.bool false)], args := [d1, d2, d3, d4] }
  | _ => none }
def BoundMoreWrongFalsely : Prop := boundMoreRow.holds Tryz.pinned (OpenSpec.ofChange boundMoreWrong)

/- THE SECOND FORM. 'bulk': how many values and letters a reading holds, each counted each time it is reached (what is shared counts as often as it is met; a slice's spare places count too). A statement '..UptoSaid' is the law's where the arguments, and the package variables that the reading takes, are together of bulk at most 1048576: NARROWER than '..Said'. Prove '..Said' where nothing that the law and all that it calls make is longer than what came in: it says more and counts as full. Else prove '..UptoSaid'. A law counts once. -/
mutual
def uptoBulk {H : Type} : DataW H → Nat
  | .lit (.string bytes) => bytes.length + 1
  | .lit _ => 1
  | .nil => 1
  | .ptr d => uptoBulk d + 1
  | .slice elems spare => uptoBulkAll elems + uptoBulkAll spare + 1
  | .agg parts => uptoBulkAll parts + 1
  | .iface _ d => uptoBulk d + 1
  | .map entries => uptoBulkEntries entries + 1
  | .held _ => 1
def uptoBulkAll {H : Type} : List (DataW H) → Nat
  | [] => 0
  | d :: r => uptoBulk d + uptoBulkAll r
def uptoBulkEntries {H : Type} : List (Lit × DataW H) → Nat
  | [] => 0
  | x :: r => uptoBulkEntry x + uptoBulkEntries r
def uptoBulkEntry {H : Type} : Lit × DataW H → Nat
  | (.string bytes, d) => bytes.length + uptoBulk d + 1
  | (_, d) => uptoBulk d + 1
 end
def uptoSmall : (H : Type) → List (DataW H) → Bool := fun _ ds => decide (uptoBulkAll ds ≤ 1048576)
def OpenSpec.upto (s : _root_.Go.ChangeSpec) : _root_.Go.OpenSpec := { _root_.Go.OpenSpec.ofChange s with cond := some uptoSmall }

/-- 'crossbucklaw09.CheckPhase', WHERE WHAT IT READS IS OF BULK AT MOST 1048576: true; the input reads as it did. -/
def checkPhaseUptoRow : OpenClaim := { program := "ytjolhoilcibdfaagreat", sum := "0725512e9772df73e9ae41b002275391e585232e9585e3da5aa09593b59d8ac6", func := "crossbuck/crossbucklaw09.CheckPhase", spec := "checkPhase", inPlace := ["math.RoundToEven", "math.Float64bits"], unfollowed := true, recurses := true, apart := false, narrowed := true }
def CheckPhaseUptoSaid : Prop := checkPhaseUptoRow.holds Tryz.pinned (OpenSpec.upto checkPhaseSpec)

/-- 'crossbucklaw09.CheckRows', WHERE WHAT IT READS IS OF BULK AT MOST 1048576: true; the input reads as it did. -/
def checkRowsUptoRow : OpenClaim := { program := "ytjolhoilcibdfaagreat", sum := "0725512e9772df73e9ae41b002275391e585232e9585e3da5aa09593b59d8ac6", func := "crossbuck/crossbucklaw09.CheckRows", spec := "checkRows", inPlace := ["math.RoundToEven", "math.Float64bits"], unfollowed := true, recurses := true, apart := false, narrowed := true }
def CheckRowsUptoSaid : Prop := checkRowsUptoRow.holds Tryz.pinned (OpenSpec.upto checkRowsSpec)

/-- 'crossbucklaw09.CheckRest', WHERE WHAT IT READS IS OF BULK AT MOST 1048576: true; the input reads as it did. -/
def checkRestUptoRow : OpenClaim := { program := "ytjolhoilcibdfaagreat", sum := "0725512e9772df73e9ae41b002275391e585232e9585e3da5aa09593b59d8ac6", func := "crossbuck/crossbucklaw09.CheckRest", spec := "checkRest", inPlace := ["math.RoundToEven", "math.Float64bits"], unfollowed := true, recurses := true, apart := false, narrowed := true }
def CheckRestUptoSaid : Prop := checkRestUptoRow.holds Tryz.pinned (OpenSpec.upto checkRestSpec)

/-- 'crossbucklaw09.CheckBeside', WHERE WHAT IT READS IS OF BULK AT MOST 1048576: true; the input reads as it did. -/
def checkBesideUptoRow : OpenClaim := { program := "ytjolhoilcibdfaagreat", sum := "0725512e9772df73e9ae41b002275391e585232e9585e3da5aa09593b59d8ac6", func := "crossbuck/crossbucklaw09.CheckBeside", spec := "checkBeside", inPlace := ["math.RoundToEven", "math.Float64bits"], unfollowed := true, recurses := true, apart := false, narrowed := true }
def CheckBesideUptoSaid : Prop := checkBesideUptoRow.holds Tryz.pinned (OpenSpec.upto checkBesideSpec)

/-- 'crossbucklaw10.BoundParts', WHERE WHAT IT READS IS OF BULK AT MOST 1048576: true; the input reads as it did. -/
def boundPartsUptoRow : OpenClaim := { program := "ytjolhoilcibdfaagreat", sum := "0725512e9772df73e9ae41b002275391e585232e9585e3da5aa09593b59d8ac6", func := "crossbuck/crossbucklaw10.BoundParts", spec := "boundParts", inPlace := ["math.RoundToEven", "math.Float64bits"], unfollowed := true, recurses := true, apart := false, narrowed := true }
def BoundPartsUptoSaid : Prop := boundPartsUptoRow.holds Tryz.pinned (OpenSpec.upto boundPartsSpec)

/-- 'crossbucklaw10.BoundAll', WHERE WHAT IT READS IS OF BULK AT MOST 1048576: true; the input reads as it did. -/
def boundAllUptoRow : OpenClaim := { program := "ytjolhoilcibdfaagreat", sum := "0725512e9772df73e9ae41b002275391e585232e9585e3da5aa09593b59d8ac6", func := "crossbuck/crossbucklaw10.BoundAll", spec := "boundAll", inPlace := ["math.RoundToEven", "math.Float64bits"], unfollowed := true, recurses := true, apart := false, narrowed := true }
def BoundAllUptoSaid : Prop := boundAllUptoRow.holds Tryz.pinned (OpenSpec.upto boundAllSpec)

/-- 'crossbucklaw10.BoundGood', WHERE WHAT IT READS IS OF BULK AT MOST 1048576: true; the input reads as it did. -/
def boundGoodUptoRow : OpenClaim := { program := "ytjolhoilcibdfaagreat", sum := "0725512e9772df73e9ae41b002275391e585232e9585e3da5aa09593b59d8ac6", func := "crossbuck/crossbucklaw10.BoundGood", spec := "boundGood", inPlace := ["math.RoundToEven", "math.Float64bits"], unfollowed := true, recurses := true, apart := false, narrowed := true }
def BoundGoodUptoSaid : Prop := boundGoodUptoRow.holds Tryz.pinned (OpenSpec.upto boundGoodSpec)

/-- 'crossbucklaw10.BoundSerial', WHERE WHAT IT READS IS OF BULK AT MOST 1048576: true; the input reads as it did. -/
def boundSerialUptoRow : OpenClaim := { program := "ytjolhoilcibdfaagreat", sum := "0725512e9772df73e9ae41b002275391e585232e9585e3da5aa09593b59d8ac6", func := "crossbuck/crossbucklaw10.BoundSerial", spec := "boundSerial", inPlace := ["math.RoundToEven", "math.Float64bits"], unfollowed := true, recurses := true, apart := false, narrowed := true }
def BoundSerialUptoSaid : Prop := boundSerialUptoRow.holds Tryz.pinned (OpenSpec.upto boundSerialSpec)

/-- 'crossbucklaw10.BoundMore', WHERE WHAT IT READS IS OF BULK AT MOST 1048576: true; the input reads as it did. -/
def boundMoreUptoRow : OpenClaim := { program := "ytjolhoilcibdfaagreat", sum := "0725512e9772df73e9ae41b002275391e585232e9585e3da5aa09593b59d8ac6", func := "crossbuck/crossbucklaw10.BoundMore", spec := "boundMore", inPlace := ["math.RoundToEven", "math.Float64bits"], unfollowed := true, recurses := true, apart := false, narrowed := true }
def BoundMoreUptoSaid : Prop := boundMoreUptoRow.holds Tryz.pinned (OpenSpec.upto boundMoreSpec)

end Rows
end Go.Proofs.YtjolhoilcibdfaaGreat
