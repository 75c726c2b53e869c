/-
  No cell of these rows narrows 'for every input' (looked for: loops, veiled, ifaces, maps, wideKeys, modest, calm, conditions, laid).
  DERIVED. THE GIVEN ROWS OF THIS SEAT. 8 by the template 'for every input the law returns true; each argument reads behind the call as it read before'; 0 by the template 'total and deterministic' (their statements: YtneaomdgjlmleaaTotals.lean).
  GIVEN WITH THE SEED: the statements are not yours to turn. If you find one false, say at which input.
  Laid BY PROGRAM, IN A SANDBOX (cutbox-rows.mjs): the forced cells as the released guide's own fill.sh prints them over the translation a7f913ab208e6e4c… (all of the seat's roots in one cut). By AI agents, Wed Nov 11 2026. No macro, syntax, notation, axiom, sorry.
-/
import Derived.Test.YtneaomdgjlmleaaChecked
import GoSem.Claim
import GoSem.ClaimJoined
import GoSem.ClaimMapViews
import Derived.JoinedTies
import Derived.KernelRfl
namespace Go.Proofs.Ytneaomdgjlmleaa
/- THE CELL 'sum', in the pinned program and in every row, IS THE sha256 OF THE DUMP (.gsa) THAT YtneaomdgjlmleaaProg.lean LOADS. Nothing in Lean hashes anything: it is a label: what it is worth is what the hold of that sum in a sandbox is worth. -/
noncomputable def Try.pinned : Pinned := { name := "ytneaomdgjlmleaa", sum := "a7f913ab208e6e4cad10c51d396606fb71bc988cd4a2bc965fd50365d04e7f7a", checked := Try.checked }
namespace Rows
def none {H : Type} : Left H := { results := [], args := [] }

/-- 'crossbucklaw15.CallsAll': WHATEVER THE INPUT: true; the input reads as it did. -/
def callsAllSpec : ChangeSpec := { name := "callsAll", fn := fun _ => fun
  | [d1, d2, d3, d4, d5, d6] => { results := [.lit (.bool true)], args := [d1, d2, d3, d4, d5, d6] }
  | _ => none }
def callsAllRow : OpenClaim := { program := "ytneaomdgjlmleaa", sum := "a7f913ab208e6e4cad10c51d396606fb71bc988cd4a2bc965fd50365d04e7f7a", func := "crossbuck/crossbucklaw15.CallsAll", spec := "callsAll", unfollowed := true, recurses := true, apart := false }
def CallsAllSaid : Prop := callsAllRow.holds Try.pinned (OpenSpec.ofChange callsAllSpec)

/-- ITS FALSE NEIGHBOUR: 'it returns false'. Refute it at one input. -/
def callsAllWrong : ChangeSpec := { name := "callsAll", fn := fun _ => fun
  | [d1, d2, d3, d4, d5, d6] => { results := [.lit (.bool false)], args := [d1, d2, d3, d4, d5, d6] }
  | _ => none }
def CallsAllWrongFalsely : Prop := callsAllRow.holds Try.pinned (OpenSpec.ofChange callsAllWrong)

/-- 'crossbucklaw15.CallsKept': WHATEVER THE INPUT: true; the input reads as it did. -/
def callsKeptSpec : ChangeSpec := { name := "callsKept", fn := fun _ => fun
  | [d1, d2] => { results := [.lit (.bool true)], args := [d1, d2] }
  | _ => none }
def callsKeptRow : OpenClaim := { program := "ytneaomdgjlmleaa", sum := "a7f913ab208e6e4cad10c51d396606fb71bc988cd4a2bc965fd50365d04e7f7a", func := "crossbuck/crossbucklaw15.CallsKept", spec := "callsKept", unfollowed := true, recurses := true, apart := false }
def CallsKeptSaid : Prop := callsKeptRow.holds Try.pinned (OpenSpec.ofChange callsKeptSpec)

/-- ITS FALSE NEIGHBOUR: 'it returns false'. Refute it at one input. -/
def callsKeptWrong : ChangeSpec := { name := "callsKept", fn := fun _ => fun
  | [d1, d2] => { results := [.lit (.bool false)], args := [d1, d2] }
  | _ => none }
def CallsKeptWrongFalsely : Prop := callsKeptRow.holds Try.pinned (OpenSpec.ofChange callsKeptWrong)

/-- 'crossbucklaw15.CallsRecall': WHATEVER THE INPUT: true; the input reads as it did. -/
def callsRecallSpec : ChangeSpec := { name := "callsRecall", fn := fun _ => fun
  | [d1, d2, d3, d4] => { results := [.lit (.bool true)], args := [d1, d2, d3, d4] }
  | _ => none }
def callsRecallRow : OpenClaim := { program := "ytneaomdgjlmleaa", sum := "a7f913ab208e6e4cad10c51d396606fb71bc988cd4a2bc965fd50365d04e7f7a", func := "crossbuck/crossbucklaw15.CallsRecall", spec := "callsRecall", unfollowed := true, recurses := true, apart := false }
def CallsRecallSaid : Prop := callsRecallRow.holds Try.pinned (OpenSpec.ofChange callsRecallSpec)

/-- ITS FALSE NEIGHBOUR: 'it returns false'. Refute it at one input. -/
def callsRecallWrong : ChangeSpec := { name := "callsRecall", fn := fun _ => fun
  | [d1, d2, d3, d4] => { results := [.lit (.bool false)], args := [d1, d2, d3, d4] }
  | _ => none }
def CallsRecallWrongFalsely : Prop := callsRecallRow.holds Try.pinned (OpenSpec.ofChange callsRecallWrong)

/-- 'crossbucklaw15.CallsMore': WHATEVER THE INPUT: true; the input reads as it did. -/
def callsMoreSpec : ChangeSpec := { name := "callsMore", fn := fun _ => fun
  | [d1, d2, d3, d4, d5, d6, d7] => { results := [.lit (.bool true)], args := [d1, d2, d3, d4, d5, d6, d7] }
  | _ => none }
def callsMoreRow : OpenClaim := { program := "ytneaomdgjlmleaa", sum := "a7f913ab208e6e4cad10c51d396606fb71bc988cd4a2bc965fd50365d04e7f7a", func := "crossbuck/crossbucklaw15.CallsMore", spec := "callsMore", unfollowed := true, recurses := true, apart := false }
def CallsMoreSaid : Prop := callsMoreRow.holds Try.pinned (OpenSpec.ofChange callsMoreSpec)

/-- ITS FALSE NEIGHBOUR: 'it returns false'. Refute it at one input. -/
def callsMoreWrong : ChangeSpec := { name := "callsMore", fn := fun _ => fun
  | [d1, d2, d3, d4, d5, d6, d7] => { results := [.lit (.bool false)], args := [d1, d2, d3, d4, d5, d6, d7] }
  | _ => none }
def CallsMoreWrongFalsely : Prop := callsMoreRow.holds Try.pinned (OpenSpec.ofChange callsMoreWrong)

/-- 'crossbucklaw14.DetectAll': WHATEVER THE INPUT: true; the input reads as it did. -/
def detectAllSpec : ChangeSpec := { name := "detectAll", fn := fun _ => fun
  | [d1, d2, d3] => { results := [.lit (.bool true)], args := [d1, d2, d3] }
  | _ => none }
def detectAllRow : OpenClaim := { program := "ytneaomdgjlmleaa", sum := "a7f913ab208e6e4cad10c51d396606fb71bc988cd4a2bc965fd50365d04e7f7a", func := "crossbuck/crossbucklaw14.DetectAll", spec := "detectAll", inPlace := ["math.Float64frombits", "math.Float64bits", "math.RoundToEven"], apart := false }
def DetectAllSaid : Prop := detectAllRow.holds Try.pinned (OpenSpec.ofChange detectAllSpec)

/-- ITS FALSE NEIGHBOUR: 'it returns false'. Refute it at one input. -/
def detectAllWrong : ChangeSpec := { name := "detectAll", fn := fun _ => fun
  | [d1, d2, d3] => { results := [.lit (.bool false)], args := [d1, d2, d3] }
  | _ => none }
def DetectAllWrongFalsely : Prop := detectAllRow.holds Try.pinned (OpenSpec.ofChange detectAllWrong)

/-- 'crossbucklaw14.DetectPlays': WHATEVER THE INPUT: true; the input reads as it did. -/
def detectPlaysSpec : ChangeSpec := { name := "detectPlays", fn := fun _ => fun
  | [d1, d2] => { results := [.lit (.bool true)], args := [d1, d2] }
  | _ => none }
def detectPlaysRow : OpenClaim := { program := "ytneaomdgjlmleaa", sum := "a7f913ab208e6e4cad10c51d396606fb71bc988cd4a2bc965fd50365d04e7f7a", func := "crossbuck/crossbucklaw14.DetectPlays", spec := "detectPlays", inPlace := ["math.Float64frombits", "math.Float64bits", "math.RoundToEven"], apart := false }
def DetectPlaysSaid : Prop := detectPlaysRow.holds Try.pinned (OpenSpec.ofChange detectPlaysSpec)

/-- ITS FALSE NEIGHBOUR: 'it returns false'. Refute it at one input. -/
def detectPlaysWrong : ChangeSpec := { name := "detectPlays", fn := fun _ => fun
  | [d1, d2] => { results := [.lit (.bool false)], args := [d1, d2] }
  | _ => none }
def DetectPlaysWrongFalsely : Prop := detectPlaysRow.holds Try.pinned (OpenSpec.ofChange detectPlaysWrong)

/-- 'crossbucklaw14.DetectBroken': WHATEVER THE INPUT: true; the input reads as it did. -/
def detectBrokenSpec : ChangeSpec := { name := "detectBroken", fn := fun _ => fun
  | [d1, d2, d3, d4] => { results := [.lit (.bool true)], args := [d1, d2, d3, d4] }
  | _ => none }
def detectBrokenRow : OpenClaim := { program := "ytneaomdgjlmleaa", sum := "a7f913ab208e6e4cad10c51d396606fb71bc988cd4a2bc965fd50365d04e7f7a", func := "crossbuck/crossbucklaw14.DetectBroken", spec := "detectBroken", inPlace := ["math.Float64frombits", "math.Float64bits", "math.RoundToEven"], apart := false }
def DetectBrokenSaid : Prop := detectBrokenRow.holds Try.pinned (OpenSpec.ofChange detectBrokenSpec)

/-- ITS FALSE NEIGHBOUR: 'it returns false'. Refute it at one input. -/
def detectBrokenWrong : ChangeSpec := { name := "detectBroken", fn := fun _ => fun
  | [d1, d2, d3, d4] => { results := [.lit (.bool false)], args := [d1, d2, d3, d4] }
  | _ => none }
def DetectBrokenWrongFalsely : Prop := detectBrokenRow.holds Try.pinned (OpenSpec.ofChange detectBrokenWrong)

/-- 'crossbucklaw14.DetectApart': WHATEVER THE INPUT: true; the input reads as it did. -/
def detectApartSpec : ChangeSpec := { name := "detectApart", fn := fun _ => fun
  | [d1, d2, d3, d4] => { results := [.lit (.bool true)], args := [d1, d2, d3, d4] }
  | _ => none }
def detectApartRow : OpenClaim := { program := "ytneaomdgjlmleaa", sum := "a7f913ab208e6e4cad10c51d396606fb71bc988cd4a2bc965fd50365d04e7f7a", func := "crossbuck/crossbucklaw14.DetectApart", spec := "detectApart", inPlace := ["math.Float64frombits", "math.Float64bits", "math.RoundToEven"], apart := false }
def DetectApartSaid : Prop := detectApartRow.holds Try.pinned (OpenSpec.ofChange detectApartSpec)

/-- ITS FALSE NEIGHBOUR: 'it returns false'. Refute it at one input. -/
def detectApartWrong : ChangeSpec := { name := "detectApart", fn := fun _ => fun
  | [d1, d2, d3, d4] => { results := [.lit (.bool false)], args := [d1, d2, d3, d4] }
  | _ => none }
def DetectApartWrongFalsely : Prop := detectApartRow.holds Try.pinned (OpenSpec.ofChange detectApartWrong)

/- THE SECOND FORM. 'bulk': how many values and letters a reading holds, each counted each time it is reached (what is shared counts as often as it is met; a slice's spare places count too). A statement '..UptoSaid' is the law's where the arguments, and the package variables that the reading takes, are together of bulk at most 1048576: NARROWER than '..Said'. Prove '..Said' where nothing that the law and all that it calls make is longer than what came in: it says more and counts as full. Else prove '..UptoSaid'. A law counts once. -/
mutual
def uptoBulk {H : Type} : DataW H → Nat
  | .lit (.string bytes) => bytes.length + 1
  | .lit _ => 1
  | .nil => 1
  | .ptr d => uptoBulk d + 1
  | .slice elems spare => uptoBulkAll elems + uptoBulkAll spare + 1
  | .agg parts => uptoBulkAll parts + 1
  | .iface _ d => uptoBulk d + 1
  | .map entries => uptoBulkEntries entries + 1
  | .held _ => 1
def uptoBulkAll {H : Type} : List (DataW H) → Nat
  | [] => 0
  | d :: r => uptoBulk d + uptoBulkAll r
def uptoBulkEntries {H : Type} : List (Lit × DataW H) → Nat
  | [] => 0
  | x :: r => uptoBulkEntry x + uptoBulkEntries r
def uptoBulkEntry {H : Type} : Lit × DataW H → Nat
  | (.string bytes, d) => bytes.length + uptoBulk d + 1
  | (_, d) => uptoBulk d + 1
 end
def uptoSmall : (H : Type) → List (DataW H) → Bool := fun _ ds => decide (uptoBulkAll ds ≤ 1048576)
def OpenSpec.upto (s : _root_.Go.ChangeSpec) : _root_.Go.OpenSpec := { _root_.Go.OpenSpec.ofChange s with cond := some uptoSmall }

/-- 'crossbucklaw15.CallsAll', WHERE WHAT IT READS IS OF BULK AT MOST 1048576: true; the input reads as it did. -/
def callsAllUptoRow : OpenClaim := { program := "ytneaomdgjlmleaa", sum := "a7f913ab208e6e4cad10c51d396606fb71bc988cd4a2bc965fd50365d04e7f7a", func := "crossbuck/crossbucklaw15.CallsAll", spec := "callsAll", unfollowed := true, recurses := true, apart := false, narrowed := true }
def CallsAllUptoSaid : Prop := callsAllUptoRow.holds Try.pinned (OpenSpec.upto callsAllSpec)

/-- 'crossbucklaw15.CallsKept', WHERE WHAT IT READS IS OF BULK AT MOST 1048576: true; the input reads as it did. -/
def callsKeptUptoRow : OpenClaim := { program := "ytneaomdgjlmleaa", sum := "a7f913ab208e6e4cad10c51d396606fb71bc988cd4a2bc965fd50365d04e7f7a", func := "crossbuck/crossbucklaw15.CallsKept", spec := "callsKept", unfollowed := true, recurses := true, apart := false, narrowed := true }
def CallsKeptUptoSaid : Prop := callsKeptUptoRow.holds Try.pinned (OpenSpec.upto callsKeptSpec)

/-- 'crossbucklaw15.CallsRecall', WHERE WHAT IT READS IS OF BULK AT MOST 1048576: true; the input reads as it did. -/
def callsRecallUptoRow : OpenClaim := { program := "ytneaomdgjlmleaa", sum := "a7f913ab208e6e4cad10c51d396606fb71bc988cd4a2bc965fd50365d04e7f7a", func := "crossbuck/crossbucklaw15.CallsRecall", spec := "callsRecall", unfollowed := true, recurses := true, apart := false, narrowed := true }
def CallsRecallUptoSaid : Prop := callsRecallUptoRow.holds Try.pinned (OpenSpec.upto callsRecallSpec)

/-- 'crossbucklaw15.CallsMore', WHERE WHAT IT READS IS OF BULK AT MOST 1048576: true; the input reads as it did. -/
def callsMoreUptoRow : OpenClaim := { program := "ytneaomdgjlmleaa", sum := "a7f913ab208e6e4cad10c51d396606fb71bc988cd4a2bc965fd50365d04e7f7a", func := "crossbuck/crossbucklaw15.CallsMore", spec := "callsMore", unfollowed := true, recurses := true, apart := false, narrowed := true }
def CallsMoreUptoSaid : Prop := callsMoreUptoRow.holds Try.pinned (OpenSpec.upto callsMoreSpec)

/-- 'crossbucklaw14.DetectAll', WHERE WHAT IT READS IS OF BULK AT MOST 1048576: true; the input reads as it did. -/
def detectAllUptoRow : OpenClaim := { program := "ytneaomdgjlmleaa", sum := "a7f913ab208e6e4cad10c51d396606fb71bc988cd4a2bc965fd50365d04e7f7a", func := "crossbuck/crossbucklaw14.DetectAll", spec := "detectAll", inPlace := ["math.Float64frombits", "math.Float64bits", "math.RoundToEven"], apart := false, narrowed := true }
def DetectAllUptoSaid : Prop := detectAllUptoRow.holds Try.pinned (OpenSpec.upto detectAllSpec)

/-- 'crossbucklaw14.DetectPlays', WHERE WHAT IT READS IS OF BULK AT MOST 1048576: true; the input reads as it did. -/
def detectPlaysUptoRow : OpenClaim := { program := "ytneaomdgjlmleaa", sum := "a7f913ab208e6e4cad10c51d396606fb71bc988cd4a2bc965fd50365d04e7f7a", func := "crossbuck/crossbucklaw14.DetectPlays", spec := "detectPlays", inPlace := ["math.Float64frombits", "math.Float64bits", "math.RoundToEven"], apart := false, narrowed := true }
def DetectPlaysUptoSaid : Prop := detectPlaysUptoRow.holds Try.pinned (OpenSpec.upto detectPlaysSpec)

/-- 'crossbucklaw14.DetectBroken', WHERE WHAT IT READS IS OF BULK AT MOST 1048576: true; the input reads as it did. -/
def detectBrokenUptoRow : OpenClaim := { program := "ytneaomdgjlmleaa", sum := "a7f913ab208e6e4cad10c51d396606fb71bc988cd4a2bc965fd50365d04e7f7a", func := "crossbuck/crossbucklaw14.DetectBroken", spec := "detectBroken", inPlace := ["math.Float64frombits", "math.Float64bits", "math.RoundToEven"], apart := false, narrowed := true }
def DetectBrokenUptoSaid : Prop := detectBrokenUptoRow.holds Try.pinned (OpenSpec.upto detectBrokenSpec)

/-- 'crossbucklaw14.DetectApart', WHERE WHAT IT READS IS OF BULK AT MOST 1048576: true; the input reads as it did. -/
def detectApartUptoRow : OpenClaim := { program := "ytneaomdgjlmleaa", sum := "a7f913ab208e6e4cad10c51d396606fb71bc988cd4a2bc965fd50365d04e7f7a", func := "crossbuck/crossbucklaw14.DetectApart", spec := "detectApart", inPlace := ["math.Float64frombits", "math.Float64bits", "math.RoundToEven"], apart := false, narrowed := true }
def DetectApartUptoSaid : Prop := detectApartUptoRow.holds Try.pinned (OpenSpec.upto detectApartSpec)

end Rows
end Go.Proofs.Ytneaomdgjlmleaa
