/-
  DERIVED. GIVEN WITH THE SEED: THE CARDS: each row of YtkccepdifgldeaaDoorRows.lean that lists a variable, with what it lists TIED to the program's text (the seventh form; the later family's looks); each row that meets fmt, with fmt's text TOLD by the authors' own Lean function (tested against real Go, not proved from fmt's source: count such statements apart). THE CARD IS WHAT COUNTS. Prove the row's statement (the work); the ties are given (YtkccepdifgldeaaDoorTie.lean); close each card by the builder's one call (the guide's Derived/Test/ToyasCard.lean, 'card_holds'). Laid BY PROGRAM, IN A SANDBOX (cutbox-door.mjs). By AI agents, Wed Nov 11 2026. No macro, syntax, notation, axiom, sorry.
-/
import Derived.Test.YtkccepdifgldeaaDoorRows
import GoSem.ClaimSeven
namespace Go.Proofs.YtkccepdifgldeaaDoor
namespace Rows

/-- THE TIED CARD OF 'crossbucklaw20.TransitAll'. -/
def transitAllCard : Claim7 := { stood := { row := transitAllRow, standIns := [], harness := (true, "2a29ab980ac31f20b1ec44d3081533471ef1f090da43b8a7c5ab963087d4fb6d"), looks := false }, kinds := [], alts := [], laidByText := true, laidKinds := [.data, .data], laidTests := true, laidLooks := .later }
def TransitAllCardSaid : Prop := Claim7.holds Tryd.pinned (.plain (OpenSpec.ofChange transitAllSpec)) transitAllCard

/-- THE TIED CARD OF 'crossbucklaw20.TransitSteps'. -/
def transitStepsCard : Claim7 := { stood := { row := transitStepsRow, standIns := [], harness := (true, "2a29ab980ac31f20b1ec44d3081533471ef1f090da43b8a7c5ab963087d4fb6d"), looks := false }, kinds := [], alts := [], laidByText := true, laidKinds := [.data, .data], laidTests := true, laidLooks := .later }
def TransitStepsCardSaid : Prop := Claim7.holds Tryd.pinned (.plain (OpenSpec.ofChange transitStepsSpec)) transitStepsCard

/-- THE TIED CARD OF 'crossbucklaw20.TransitLocks'. -/
def transitLocksCard : Claim7 := { stood := { row := transitLocksRow, standIns := [], harness := (true, "2a29ab980ac31f20b1ec44d3081533471ef1f090da43b8a7c5ab963087d4fb6d"), looks := false }, kinds := [], alts := [], laidByText := true, laidKinds := [.data, .data], laidTests := true, laidLooks := .later }
def TransitLocksCardSaid : Prop := Claim7.holds Tryd.pinned (.plain (OpenSpec.ofChange transitLocksSpec)) transitLocksCard

/-- THE TIED CARD OF 'crossbucklaw20.TransitBudget'. -/
def transitBudgetCard : Claim7 := { stood := { row := transitBudgetRow, standIns := [], harness := (true, "2a29ab980ac31f20b1ec44d3081533471ef1f090da43b8a7c5ab963087d4fb6d"), looks := false }, kinds := [], alts := [], laidByText := true, laidKinds := [.data, .data], laidTests := true, laidLooks := .later }
def TransitBudgetCardSaid : Prop := Claim7.holds Tryd.pinned (.plain (OpenSpec.ofChange transitBudgetSpec)) transitBudgetCard

/-- THE TIED CARD OF 'crossbucklaw20.TransitFair'. -/
def transitFairCard : Claim7 := { stood := { row := transitFairRow, standIns := [], harness := (true, "2a29ab980ac31f20b1ec44d3081533471ef1f090da43b8a7c5ab963087d4fb6d"), looks := false }, kinds := [], alts := [], laidByText := true, laidKinds := [.data, .data], laidTests := true, laidLooks := .later }
def TransitFairCardSaid : Prop := Claim7.holds Tryd.pinned (.plain (OpenSpec.ofChange transitFairSpec)) transitFairCard

/-- THE SECOND FORM's CARD OF 'crossbucklaw20.TransitAll'. -/
def transitAllUptoCard : Claim7 := { stood := { row := transitAllUptoRow, standIns := [], harness := (true, "2a29ab980ac31f20b1ec44d3081533471ef1f090da43b8a7c5ab963087d4fb6d"), looks := false }, kinds := [], alts := [], laidByText := true, laidKinds := [.data, .data], laidTests := true, laidLooks := .later }
def TransitAllUptoCardSaid : Prop := Claim7.holds Tryd.pinned (.plain (OpenSpec.upto transitAllSpec)) transitAllUptoCard

/-- THE SECOND FORM's CARD OF 'crossbucklaw20.TransitSteps'. -/
def transitStepsUptoCard : Claim7 := { stood := { row := transitStepsUptoRow, standIns := [], harness := (true, "2a29ab980ac31f20b1ec44d3081533471ef1f090da43b8a7c5ab963087d4fb6d"), looks := false }, kinds := [], alts := [], laidByText := true, laidKinds := [.data, .data], laidTests := true, laidLooks := .later }
def TransitStepsUptoCardSaid : Prop := Claim7.holds Tryd.pinned (.plain (OpenSpec.upto transitStepsSpec)) transitStepsUptoCard

/-- THE SECOND FORM's CARD OF 'crossbucklaw20.TransitLocks'. -/
def transitLocksUptoCard : Claim7 := { stood := { row := transitLocksUptoRow, standIns := [], harness := (true, "2a29ab980ac31f20b1ec44d3081533471ef1f090da43b8a7c5ab963087d4fb6d"), looks := false }, kinds := [], alts := [], laidByText := true, laidKinds := [.data, .data], laidTests := true, laidLooks := .later }
def TransitLocksUptoCardSaid : Prop := Claim7.holds Tryd.pinned (.plain (OpenSpec.upto transitLocksSpec)) transitLocksUptoCard

/-- THE SECOND FORM's CARD OF 'crossbucklaw20.TransitBudget'. -/
def transitBudgetUptoCard : Claim7 := { stood := { row := transitBudgetUptoRow, standIns := [], harness := (true, "2a29ab980ac31f20b1ec44d3081533471ef1f090da43b8a7c5ab963087d4fb6d"), looks := false }, kinds := [], alts := [], laidByText := true, laidKinds := [.data, .data], laidTests := true, laidLooks := .later }
def TransitBudgetUptoCardSaid : Prop := Claim7.holds Tryd.pinned (.plain (OpenSpec.upto transitBudgetSpec)) transitBudgetUptoCard

/-- THE SECOND FORM's CARD OF 'crossbucklaw20.TransitFair'. -/
def transitFairUptoCard : Claim7 := { stood := { row := transitFairUptoRow, standIns := [], harness := (true, "2a29ab980ac31f20b1ec44d3081533471ef1f090da43b8a7c5ab963087d4fb6d"), looks := false }, kinds := [], alts := [], laidByText := true, laidKinds := [.data, .data], laidTests := true, laidLooks := .later }
def TransitFairUptoCardSaid : Prop := Claim7.holds Tryd.pinned (.plain (OpenSpec.upto transitFairSpec)) transitFairUptoCard
end Rows
end Go.Proofs.YtkccepdifgldeaaDoor
