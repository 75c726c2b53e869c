/- A walk by a class of worlds behind a structure: nothing looks into what is still to come (a region that draws, with guarded operations, inside loops). No program in it. -/
import Derived.Test.YtbpfknkbiaplpaaPart01
import Derived.BigQuiet
set_option linter.unusedVariables false
set_option linter.unusedSimpArgs false
set_option linter.unusedSectionVars false
set_option maxHeartbeats 8000000
set_option maxRecDepth 100000
namespace Go.Proofs.Ytbpfknkbiaplpaa
namespace Wq
open Go Go.RowKit
open Tab
structure W (P : Program) (ops : Array Oper) (C : World → Prop) (Q : Act → Prop) (l : List Oper) (a : Act) : Prop where
  out : wpQuiet P ops C Q l a
section
variable {P : Program} {ops : Array Oper} {C : World → Prop} {Q : Act → Prop} {rest : List Oper} {o : Oper} {a : Act}
theorem nil (h : Q a) : W P ops C Q [] a := ⟨wpQuiet_nil h⟩
theorem skip (hw : Region.wanted o (yielded ops a.tmps) = false) (h : W P ops C Q rest (a.put o.dst undef)) : W P ops C Q (o :: rest) a := ⟨BigFrame.wpQuiet_skip hw h.out⟩
theorem want (hw : Region.wanted o (yielded ops a.tmps) = true) (h : ∀ K : Act → Prop, (∀ a, W P ops C Q rest a → K a) → o.quiet P a C K) : W P ops C Q (o :: rest) a :=
  ⟨BigFrame.wpQuiet_want hw fun K hK => h K fun a h => hK a h.out⟩
theorem load (hw : Region.wanted o (yielded ops a.tmps) = true) (ty : TypeId) (x : Operand) (ho : o.op = .load ty x) (y : Addr) (hx : a.eval x = .pointer (some y))
    (cs : List Value) (d : TypeDesc) (hc : ∀ w, C w → Lies w y cs) (hu : P.underlying ty = some d) (hd : d.isRow = true) (hi : (P.info? ty).map (·.size) = some cs.length) (h : W P ops C Q rest (a.put o.dst (.agg cs.toArray))) : W P ops C Q (o :: rest) a :=
  ⟨QL.wpQuiet_load hw ty x ho y hx cs d hc hu hd hi h.out⟩
end
end Wq
end Go.Proofs.Ytbpfknkbiaplpaa
