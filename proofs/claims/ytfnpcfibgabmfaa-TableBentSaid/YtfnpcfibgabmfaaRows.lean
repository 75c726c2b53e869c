/-
  No cell of these rows narrows 'for every input' (looked for: loops, veiled, ifaces, maps, wideKeys, modest, calm, conditions, laid).
  DERIVED. THE GIVEN ROWS OF THIS SEAT. 7 by the template 'for every input the law returns true; each argument reads behind the call as it read before'; 0 by the template 'total and deterministic' (their statements: YtfnpcfibgabmfaaTotals.lean).
  GIVEN WITH THE SEED: the statements are not yours to turn. If you find one false, say at which input.
  Laid BY PROGRAM, IN A SANDBOX (cutbox-rows.mjs): the forced cells as the released guide's own fill.sh prints them over the translation a7059fb131824bf1… (all of the seat's roots in one cut). By AI agents, Wed Nov 11 2026. No macro, syntax, notation, axiom, sorry.
-/
import Derived.Test.YtfnpcfibgabmfaaChecked
import GoSem.Claim
import GoSem.ClaimJoined
import GoSem.ClaimMapViews
import Derived.JoinedTies
import Derived.KernelRfl
namespace Go.Proofs.Ytfnpcfibgabmfaa
/- THE CELL 'sum', in the pinned program and in every row, IS THE sha256 OF THE DUMP (.gsa) THAT YtfnpcfibgabmfaaProg.lean LOADS. Nothing in Lean hashes anything: it is a label: what it is worth is what the hold of that sum in a sandbox is worth. -/
noncomputable def Try.pinned : Pinned := { name := "ytfnpcfibgabmfaa", sum := "a7059fb131824bf149bb40be463844bcda67b5adedbd5fad374adb467f20903c", checked := Try.checked }
namespace Rows
def none {H : Type} : Left H := { results := [], args := [] }

/-- 'crossbucklaw06.TableBent': WHATEVER THE INPUT: true; the input reads as it did. -/
def tableBentSpec : ChangeSpec := { name := "tableBent", fn := fun _ => fun
  | [d1, d2, d3, d4] => { results := [.lit (.bool true)], args := [d1, d2, d3, d4] }
  | _ => none }
def tableBentRow : OpenClaim := { program := "ytfnpcfibgabmfaa", sum := "a7059fb131824bf149bb40be463844bcda67b5adedbd5fad374adb467f20903c", func := "crossbuck/crossbucklaw06.TableBent", spec := "tableBent", inPlace := ["math.RoundToEven", "math.Float64bits"], unfollowed := true, recurses := true, apart := false }
def TableBentSaid : Prop := tableBentRow.holds Try.pinned (OpenSpec.ofChange tableBentSpec)

/-- ITS FALSE NEIGHBOUR: 'it returns false'. Refute it at one input. -/
def tableBentWrong : ChangeSpec := { name := "tableBent", fn := fun _ => fun
  | [d1, d2, d3, d4] => { results := [.lit (.bool false)], args := [d1, d2, d3, d4] }
  | _ => none }
def TableBentWrongFalsely : Prop := tableBentRow.holds Try.pinned (OpenSpec.ofChange tableBentWrong)

/-- 'crossbucklaw06.TableOwn': WHATEVER THE INPUT: true; the input reads as it did. -/
def tableOwnSpec : ChangeSpec := { name := "tableOwn", fn := fun _ => fun
  | [d] => { results := [.lit (.bool true)], args := [d] }
  | _ => none }
def tableOwnRow : OpenClaim := { program := "ytfnpcfibgabmfaa", sum := "a7059fb131824bf149bb40be463844bcda67b5adedbd5fad374adb467f20903c", func := "crossbuck/crossbucklaw06.TableOwn", spec := "tableOwn", inPlace := ["math.Float64bits", "math.RoundToEven"], unfollowed := true, recurses := true, apart := false }
def TableOwnSaid : Prop := tableOwnRow.holds Try.pinned (OpenSpec.ofChange tableOwnSpec)

/-- ITS FALSE NEIGHBOUR: 'it returns false'. Refute it at one input. -/
def tableOwnWrong : ChangeSpec := { name := "tableOwn", fn := fun _ => fun
  | [d] => { results := [.lit (.bool false)], args := [d] }
  | _ => none }
def TableOwnWrongFalsely : Prop := tableOwnRow.holds Try.pinned (OpenSpec.ofChange tableOwnWrong)

/-- 'crossbucklaw08.PlanAll': WHATEVER THE INPUT: true; the input reads as it did. -/
def planAllSpec : ChangeSpec := { name := "planAll", fn := fun _ => fun
  | [d1, d2, d3, d4] => { results := [.lit (.bool true)], args := [d1, d2, d3, d4] }
  | _ => none }
def planAllRow : OpenClaim := { program := "ytfnpcfibgabmfaa", sum := "a7059fb131824bf149bb40be463844bcda67b5adedbd5fad374adb467f20903c", func := "crossbuck/crossbucklaw08.PlanAll", spec := "planAll", apart := false }
def PlanAllSaid : Prop := planAllRow.holds Try.pinned (OpenSpec.ofChange planAllSpec)

/-- ITS FALSE NEIGHBOUR: 'it returns false'. Refute it at one input. -/
def planAllWrong : ChangeSpec := { name := "planAll", fn := fun _ => fun
  | [d1, d2, d3, d4] => { results := [.lit (.bool false)], args := [d1, d2, d3, d4] }
  | _ => none }
def PlanAllWrongFalsely : Prop := planAllRow.holds Try.pinned (OpenSpec.ofChange planAllWrong)

/-- 'crossbucklaw08.PlanNext': WHATEVER THE INPUT: true; the input reads as it did. -/
def planNextSpec : ChangeSpec := { name := "planNext", fn := fun _ => fun
  | [d1, d2, d3, d4, d5] => { results := [.lit (.bool true)], args := [d1, d2, d3, d4, d5] }
  | _ => none }
def planNextRow : OpenClaim := { program := "ytfnpcfibgabmfaa", sum := "a7059fb131824bf149bb40be463844bcda67b5adedbd5fad374adb467f20903c", func := "crossbuck/crossbucklaw08.PlanNext", spec := "planNext", apart := false }
def PlanNextSaid : Prop := planNextRow.holds Try.pinned (OpenSpec.ofChange planNextSpec)

/-- ITS FALSE NEIGHBOUR: 'it returns false'. Refute it at one input. -/
def planNextWrong : ChangeSpec := { name := "planNext", fn := fun _ => fun
  | [d1, d2, d3, d4, d5] => { results := [.lit (.bool false)], args := [d1, d2, d3, d4, d5] }
  | _ => none }
def PlanNextWrongFalsely : Prop := planNextRow.holds Try.pinned (OpenSpec.ofChange planNextWrong)

/-- 'crossbucklaw08.PlanRows': WHATEVER THE INPUT: true; the input reads as it did. -/
def planRowsSpec : ChangeSpec := { name := "planRows", fn := fun _ => fun
  | [d1, d2, d3, d4] => { results := [.lit (.bool true)], args := [d1, d2, d3, d4] }
  | _ => none }
def planRowsRow : OpenClaim := { program := "ytfnpcfibgabmfaa", sum := "a7059fb131824bf149bb40be463844bcda67b5adedbd5fad374adb467f20903c", func := "crossbuck/crossbucklaw08.PlanRows", spec := "planRows", apart := false }
def PlanRowsSaid : Prop := planRowsRow.holds Try.pinned (OpenSpec.ofChange planRowsSpec)

/-- ITS FALSE NEIGHBOUR: 'it returns false'. Refute it at one input. -/
def planRowsWrong : ChangeSpec := { name := "planRows", fn := fun _ => fun
  | [d1, d2, d3, d4] => { results := [.lit (.bool false)], args := [d1, d2, d3, d4] }
  | _ => none }
def PlanRowsWrongFalsely : Prop := planRowsRow.holds Try.pinned (OpenSpec.ofChange planRowsWrong)

/-- 'crossbucklaw08.PlanRounds': WHATEVER THE INPUT: true; the input reads as it did. -/
def planRoundsSpec : ChangeSpec := { name := "planRounds", fn := fun _ => fun
  | [d1, d2, d3] => { results := [.lit (.bool true)], args := [d1, d2, d3] }
  | _ => none }
def planRoundsRow : OpenClaim := { program := "ytfnpcfibgabmfaa", sum := "a7059fb131824bf149bb40be463844bcda67b5adedbd5fad374adb467f20903c", func := "crossbuck/crossbucklaw08.PlanRounds", spec := "planRounds", apart := false }
def PlanRoundsSaid : Prop := planRoundsRow.holds Try.pinned (OpenSpec.ofChange planRoundsSpec)

/-- ITS FALSE NEIGHBOUR: 'it returns false'. Refute it at one input. -/
def planRoundsWrong : ChangeSpec := { name := "planRounds", fn := fun _ => fun
  | [d1, d2, d3] => { results := [.lit (.bool false)], args := [d1, d2, d3] }
  | _ => none }
def PlanRoundsWrongFalsely : Prop := planRoundsRow.holds Try.pinned (OpenSpec.ofChange planRoundsWrong)

/-- 'crossbucklaw08.PlanBeside': WHATEVER THE INPUT: true; the input reads as it did. -/
def planBesideSpec : ChangeSpec := { name := "planBeside", fn := fun _ => fun
  | [d1, d2, d3] => { results := [.lit (.bool true)], args := [d1, d2, d3] }
  | _ => none }
def planBesideRow : OpenClaim := { program := "ytfnpcfibgabmfaa", sum := "a7059fb131824bf149bb40be463844bcda67b5adedbd5fad374adb467f20903c", func := "crossbuck/crossbucklaw08.PlanBeside", spec := "planBeside", apart := false }
def PlanBesideSaid : Prop := planBesideRow.holds Try.pinned (OpenSpec.ofChange planBesideSpec)

/-- ITS FALSE NEIGHBOUR: 'it returns false'. Refute it at one input. -/
def planBesideWrong : ChangeSpec := { name := "planBeside", fn := fun _ => fun
  | [d1, d2, d3] => { results := [.lit (.bool false)], args := [d1, d2, d3] }
  | _ => none }
def PlanBesideWrongFalsely : Prop := planBesideRow.holds Try.pinned (OpenSpec.ofChange planBesideWrong)

/- THE SECOND FORM. 'bulk': how many values and letters a reading holds, each counted each time it is reached (what is shared counts as often as it is met; a slice's spare places count too). A statement '..UptoSaid' is the law's where the arguments, and the package variables that the reading takes, are together of bulk at most 1048576: NARROWER than '..Said'. Prove '..Said' where nothing that the law and all that it calls make is longer than what came in: it says more and counts as full. Else prove '..UptoSaid'. A law counts once. -/
mutual
def uptoBulk {H : Type} : DataW H → Nat
  | .lit (.string bytes) => bytes.length + 1
  | .lit _ => 1
  | .nil => 1
  | .ptr d => uptoBulk d + 1
  | .slice elems spare => uptoBulkAll elems + uptoBulkAll spare + 1
  | .agg parts => uptoBulkAll parts + 1
  | .iface _ d => uptoBulk d + 1
  | .map entries => uptoBulkEntries entries + 1
  | .held _ => 1
def uptoBulkAll {H : Type} : List (DataW H) → Nat
  | [] => 0
  | d :: r => uptoBulk d + uptoBulkAll r
def uptoBulkEntries {H : Type} : List (Lit × DataW H) → Nat
  | [] => 0
  | x :: r => uptoBulkEntry x + uptoBulkEntries r
def uptoBulkEntry {H : Type} : Lit × DataW H → Nat
  | (.string bytes, d) => bytes.length + uptoBulk d + 1
  | (_, d) => uptoBulk d + 1
 end
def uptoSmall : (H : Type) → List (DataW H) → Bool := fun _ ds => decide (uptoBulkAll ds ≤ 1048576)
def OpenSpec.upto (s : _root_.Go.ChangeSpec) : _root_.Go.OpenSpec := { _root_.Go.OpenSpec.ofChange s with cond := some uptoSmall }

/-- 'crossbucklaw06.TableBent', WHERE WHAT IT READS IS OF BULK AT MOST 1048576: true; the input reads as it did. -/
def tableBentUptoRow : OpenClaim := { program := "ytfnpcfibgabmfaa", sum := "a7059fb131824bf149bb40be463844bcda67b5adedbd5fad374adb467f20903c", func := "crossbuck/crossbucklaw06.TableBent", spec := "tableBent", inPlace := ["math.RoundToEven", "math.Float64bits"], unfollowed := true, recurses := true, apart := false, narrowed := true }
def TableBentUptoSaid : Prop := tableBentUptoRow.holds Try.pinned (OpenSpec.upto tableBentSpec)

/-- 'crossbucklaw06.TableOwn', WHERE WHAT IT READS IS OF BULK AT MOST 1048576: true; the input reads as it did. -/
def tableOwnUptoRow : OpenClaim := { program := "ytfnpcfibgabmfaa", sum := "a7059fb131824bf149bb40be463844bcda67b5adedbd5fad374adb467f20903c", func := "crossbuck/crossbucklaw06.TableOwn", spec := "tableOwn", inPlace := ["math.Float64bits", "math.RoundToEven"], unfollowed := true, recurses := true, apart := false, narrowed := true }
def TableOwnUptoSaid : Prop := tableOwnUptoRow.holds Try.pinned (OpenSpec.upto tableOwnSpec)

/-- 'crossbucklaw08.PlanAll', WHERE WHAT IT READS IS OF BULK AT MOST 1048576: true; the input reads as it did. -/
def planAllUptoRow : OpenClaim := { program := "ytfnpcfibgabmfaa", sum := "a7059fb131824bf149bb40be463844bcda67b5adedbd5fad374adb467f20903c", func := "crossbuck/crossbucklaw08.PlanAll", spec := "planAll", apart := false, narrowed := true }
def PlanAllUptoSaid : Prop := planAllUptoRow.holds Try.pinned (OpenSpec.upto planAllSpec)

/-- 'crossbucklaw08.PlanNext', WHERE WHAT IT READS IS OF BULK AT MOST 1048576: true; the input reads as it did. -/
def planNextUptoRow : OpenClaim := { program := "ytfnpcfibgabmfaa", sum := "a7059fb131824bf149bb40be463844bcda67b5adedbd5fad374adb467f20903c", func := "crossbuck/crossbucklaw08.PlanNext", spec := "planNext", apart := false, narrowed := true }
def PlanNextUptoSaid : Prop := planNextUptoRow.holds Try.pinned (OpenSpec.upto planNextSpec)

/-- 'crossbucklaw08.PlanRows', WHERE WHAT IT READS IS OF BULK AT MOST 1048576: true; the input reads as it did. -/
def planRowsUptoRow : OpenClaim := { program := "ytfnpcfibgabmfaa", sum := "a7059fb131824bf149bb40be463844bcda67b5adedbd5fad374adb467f20903c", func := "crossbuck/crossbucklaw08.PlanRows", spec := "planRows", apart := false, narrowed := true }
def PlanRowsUptoSaid : Prop := planRowsUptoRow.holds Try.pinned (OpenSpec.upto planRowsSpec)

/-- 'crossbucklaw08.PlanRounds', WHERE WHAT IT READS IS OF BULK AT MOST 1048576: true; the input reads as it did. -/
def planRoundsUptoRow : OpenClaim := { program := "ytfnpcfibgabmfaa", sum := "a7059fb131824bf149bb40be463844bcda67b5adedbd5fad374adb467f20903c", func := "crossbuck/crossbucklaw08.PlanRounds", spec := "planRounds", apart := false, narrowed := true }
def PlanRoundsUptoSaid : Prop := planRoundsUptoRow.holds Try.pinned (OpenSpec.upto planRoundsSpec)

/-- 'crossbucklaw08.PlanBeside', WHERE WHAT IT READS IS OF BULK AT MOST 1048576: true; the input reads as it did. -/
def planBesideUptoRow : OpenClaim := { program := "ytfnpcfibgabmfaa", sum := "a7059fb131824bf149bb40be463844bcda67b5adedbd5fad374adb467f20903c", func := "crossbuck/crossbucklaw08.PlanBeside", spec := "planBeside", apart := false, narrowed := true }
def PlanBesideUptoSaid : Prop := planBesideUptoRow.holds Try.pinned (OpenSpec.upto planBesideSpec)

end Rows
end Go.Proofs.Ytfnpcfibgabmfaa
