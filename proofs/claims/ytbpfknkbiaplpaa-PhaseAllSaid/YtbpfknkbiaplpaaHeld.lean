/- A region that draws its order of evaluation, walked by taking first what reads, and then its calls one by one: wrappers of OrdersHeld's laws. No program in it. -/
import Derived.Test.YtbpfknkbiaplpaaRow
import Derived.Deep.RegionHeld
namespace Go.Proofs.Ytbpfknkbiaplpaa.Held
open Go Go.RowKit
open Tab
section
variable {P : Program} {ops : Array Oper} {Q : Exit → Act → World → Prop} {md : Region.Mode} {S : World → Prop}
theorem take {i : Nat} {oi : Oper} (d0 : Option Tmp) (hd0 : oi.dst = d0) {fuel : Nat} {listed : Array Bool} {a : Act} {w : World} {v : Value} (hi : ops[i]? = some oi) (hs : Region.noSelect ops = true) (hf : Region.free md ops listed i = true) (hr : (Region.ready md ops listed).contains i = true)
    (hQ : ∀ c a w, Q (.panic c) (a.put d0 v) w → Q (.panic c) a w) (hy : YieldsIf P ops S oi v a) (hS : S w)
    (h : wpAnyH P md ops Q S fuel (listed.setIfInBounds i true) (a.put d0 v) w) : wpAnyH P md ops Q S (fuel + 1) listed a w :=
  by
  subst hd0
  exact wpAnyH_take hi hs hf hr hQ hy hS h
theorem take_skip {i : Nat} {oi : Oper} (d0 : Option Tmp) (hd0 : oi.dst = d0) {fuel : Nat} {listed : Array Bool} {a : Act} {w : World} (hi : ops[i]? = some oi) (hs : Region.noSelect ops = true) (hf : Region.free md ops listed i = true) (hr : (Region.ready md ops listed).contains i = true)
    (hQ : ∀ c a w, Q (.panic c) (a.put d0 undef) w → Q (.panic c) a w) (hw : Region.wanted oi (yielded ops a.tmps) = false) (hS : S w)
    (h : wpAnyH P md ops Q S fuel (listed.setIfInBounds i true) (a.put d0 undef) w) : wpAnyH P md ops Q S (fuel + 1) listed a w :=
  by
  subst hd0
  exact wpAnyH_take hi hs hf hr hQ (.inr ⟨hw, rfl⟩) hS h
theorem take_load {i : Nat} {oi : Oper} (d0 : Option Tmp) (hd0 : oi.dst = d0) {fuel : Nat} {listed : Array Bool} {a : Act} {w : World} (ty : TypeId) (x : Operand) (y : Addr) (cs : List Value) (d : TypeDesc) (hi : ops[i]? = some oi) (ho : oi.op = .load ty x) (hs : Region.noSelect ops = true) (hf : Region.free md ops listed i = true) (hr : (Region.ready md ops listed).contains i = true)
    (hQ : ∀ c a w, Q (.panic c) (a.put d0 (.agg cs.toArray)) w → Q (.panic c) a w) (hw : Region.wanted oi (yielded ops a.tmps) = true) (hS : S w) (hx : a.eval x = .pointer (some y)) (hc : ∀ w, S w → Lies w y cs) (hu : P.underlying ty = some d) (hd : d.isRow = true) (hz : (P.info? ty).map (·.size) = some cs.length)
    (h : wpAnyH P md ops Q S fuel (listed.setIfInBounds i true) (a.put d0 (.agg cs.toArray)) w) : wpAnyH P md ops Q S (fuel + 1) listed a w :=
  by
  subst hd0
  exact wpAnyH_take hi hs hf hr hQ (.inl ⟨hw, fun w' hw' => by
    unfold execOp
    simp only [ho, hx, Instr.loadAt, Instr.sureAddr, Sem.run_bind, Sem.run_pure, Result.andThen_ok, Row.run_loadVar_lies w' y ty cs d (hc w' hw') hu hd hz]⟩) hS h
theorem take_build {i : Nat} {oi : Oper} (d0 : Option Tmp) (hd0 : oi.dst = d0) {fuel : Nat} {listed : Array Bool} {a : Act} {w : World} (t : TypeId) (parts : Array (Nat × Operand)) (cells : Array Value) (hi : ops[i]? = some oi) (ho : oi.op = .build t parts) (hs : Region.noSelect ops = true) (hf : Region.free md ops listed i = true) (hr : (Region.ready md ops listed).contains i = true)
    (hQ : ∀ c a w, Q (.panic c) (a.put d0 (.agg cells)) w → Q (.panic c) a w) (hw : Region.wanted oi (yielded ops a.tmps) = true) (hS : S w) (hb : P.built t (parts.map fun (i, x) => (i, a.eval x)).toList = some cells)
    (h : wpAnyH P md ops Q S fuel (listed.setIfInBounds i true) (a.put d0 (.agg cells)) w) : wpAnyH P md ops Q S (fuel + 1) listed a w :=
  by
  subst hd0
  exact wpAnyH_take hi hs hf hr hQ (.inl ⟨hw, fun w' _ => by
    unfold execOp
    simp only [ho, Sem.run_bind, run_build w' t _ _ hb, Result.andThen_ok, Sem.run_pure]⟩) hS h
/-- A struct literal of one part. -/
theorem wpList_build1 {rest : List Oper} {o : Oper} {a : Act} {w : World} (hgd : o.guard = none) (t : TypeId) (k : Nat) (x : Operand) (ho : o.op = .build t #[(k, x)]) (v : Value) (hv : a.eval x = v) (cells : Array Value) (hb : P.built t [(k, v)] = some cells)
    (h : wpList P ops Q rest (a.put o.dst (.agg cells)) w) : wpList P ops Q (o :: rest) a w :=
  wpList_plain hgd fun _ hK => by
    subst hv
    unfold Oper.wp execOp
    have hb' : P.built t ((#[(k, x)] : Array (Nat × Operand)).map fun (i, x) => (i, a.eval x)).toList = some cells := by simpa using hb
    simp only [ho, Sem.run_bind, run_build w t _ _ hb', Result.andThen_ok, Sem.run_pure]
    exact hK _ _ h
end
end Go.Proofs.Ytbpfknkbiaplpaa.Held
