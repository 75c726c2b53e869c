/- Calls as an argument; calls compared. -/
import Derived.Test.YtneaomdgjlmleaaCaW
import Derived.Test.YtneaomdgjlmleaaSameB
import Derived.Test.YtneaomdgjlmleaaTabArg
namespace Go.Proofs.Ytneaomdgjlmleaa.Cl
open Go.ChangeShapes Go.WideShapes Go.ChangeAt Go.RowKit
open Tab Flat TabArg
set_option linter.unusedVariables false
set_option linter.unusedSimpArgs false
structure Ca where
  car : Int
  foot : Int
deriving DecidableEq
def Ca.cells (s : Ca) : List Value := [I s.car, I s.foot]
theorem flC : flat Try.prog 4 33 = some [3, 3] := by kernel_rfl
theorem flC5 : flat Try.prog 5 33 = some [3, 3] := by kernel_rfl
section
variable {H : Type} {enc : TypeId × Value → H} {P : Program} {w : World} {base : Nat} {spare : Nat → Bool} {held : Bool}
theorem ca_el : ∀ {cs : List Value}, All2 (Tr enc Try.prog w base spare held) [3, 3] cs → ∃ d : Ca, cs = d.cells
  | [_, _], ⟨h0, h1, _⟩ => by
    obtain ⟨v0, rfl⟩ := tr_int Try.underlying3 h0
    obtain ⟨v1, rfl⟩ := tr_int Try.underlying3 h1
    exact ⟨⟨v0, v1⟩, rfl⟩
end
theorem ca_eqs (a b : Int) : Same.Eqs 33 [I a, I b] [I a, I b] true := by
  have := Same.eqs_of (p := True) flC5 (by decide) (by kernel_rfl) [(I a, I a), (I b, I b)] ⟨Same.lint _ _, Same.lint _ _, trivial⟩ rfl rfl (by simp)
  simpa using this
theorem guardK : Try.prog.eqGuardType Try.prog.depth 33 = false := by kernel_rfl
end Go.Proofs.Ytneaomdgjlmleaa.Cl
