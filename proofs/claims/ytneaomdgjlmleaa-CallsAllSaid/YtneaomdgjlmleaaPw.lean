/- A region that draws and holds calls that write, walked by phases (Ph), behind a structure, so that nothing looks into what is still to come; a run of skipped operations in one step. No program in it. -/
import Derived.Test.YtneaomdgjlmleaaRow
namespace Go.Proofs.Ytneaomdgjlmleaa.Pw
open Go Go.RowKit
open Tab
structure W (P : Program) (ops : Array Oper) (D : Nat → World → Prop) (cs : List Nat) (Q : Act → Prop) (k : Nat) (l : List Oper) (a : Act) : Prop where
  out : Ph.wpPh P ops D cs Q k l a
section
variable {P : Program} {D : Nat → World → Prop} {ns : List Nat} {ops : Array Oper} {Q : Act → Prop} {k : Nat} {a : Act} {o : Oper} {rest : List Oper}
theorem region {id : Nat} {Q : Exit → Act → World → Prop} {a : Act} {w : World} {l : List Oper} (D : Nat → World → Prop) (cs : List Nat) (hm : P.follows .mixedOrders = true) (hB : Ph.okB .any l.toArray cs = true) (hD : D 0 w.drew)
    (h : W P l.toArray D cs (fun a' => ∀ w', D cs.length w' → Q .normal a' w') 0 l a) : (Code.region id l.toArray true).wp P Q a w := Ph.wp_region_ph D cs hm hB hD h.out
theorem nil (h : Q a) : W P ops D ns Q k [] a := ⟨h⟩
theorem calm (hk : ns.idxOf? k = none) (h : ∀ K : Act → Prop, (∀ a, W P ops D ns Q (k + 1) rest a → K a) → if Region.wanted o (yielded ops a.tmps) then Ph.Oper.calm P o a D K else K (a.put o.dst undef)) : W P ops D ns Q k (o :: rest) a :=
  ⟨Ph.wpPh_calm hk fun K hK => h K fun a ha => hK a ha.out⟩
theorem link {p : Nat} (hk : ns.idxOf? k = some p) (h : ∀ K : Act → Prop, (∀ a, W P ops D ns Q (k + 1) rest a → K a) → Region.wanted o (yielded ops a.tmps) = true ∧ Ph.Oper.link P o a (D p) (D (p + 1)) K) : W P ops D ns Q k (o :: rest) a :=
  ⟨Ph.wpPh_link hk fun K hK => h K fun a ha => hK a ha.out⟩
/-- Operations whose guard says no. -/
def skipsB (ns : List Nat) (ops : Array Oper) : Nat → Nat → List Oper → Act → Bool
  | 0, _, _, _ => true
  | _ + 1, _, [], _ => false
  | n + 1, k, o :: l, a => (ns.idxOf? k).isNone && !(Region.wanted o (yielded ops a.tmps)) && skipsB ns ops n (k + 1) l (a.put o.dst undef)
def undefs : List Oper → Act → Act
  | [], a => a
  | o :: l, a => undefs l (a.put o.dst undef)
theorem skips : ∀ (n : Nat) {k : Nat} {l : List Oper} {a : Act}, skipsB ns ops n k l a = true → W P ops D ns Q (k + n) (l.drop n) (undefs (l.take n) a) → W P ops D ns Q k l a
  | 0, _, _, _, _, h => h
  | n + 1, _, [], _, h, _ => by simp [skipsB] at h
  | n + 1, k, o :: l, a, h, hr => by
    simp only [skipsB, Bool.and_eq_true, Option.isNone_iff_eq_none, Bool.not_eq_true'] at h
    refine calm h.1.1 fun K hK => ?_
    rw [if_neg (by rw [h.1.2]; simp)]
    refine hK _ (skips n h.2 ?_)
    rw [show k + 1 + n = k + (n + 1) by omega]
    exact hr
theorem load (hk : ns.idxOf? k = none) (hw : Region.wanted o (yielded ops a.tmps) = true)
    (ty : TypeId) (x : Operand) (ho : o.op = .load ty x) (y : Addr) (hx : a.eval x = .pointer (some y)) (cs : List Value) (d : TypeDesc) (hc : ∀ p : Ph.S D, Lies p.world y cs) (hu : P.underlying ty = some d) (hd : d.isRow = true) (hi : (P.info? ty).map (·.size) = some cs.length)
    (h : W P ops D ns Q (k + 1) rest (a.put o.dst (.agg cs.toArray))) : W P ops D ns Q k (o :: rest) a := ⟨Row.wpPh_load hk hw ty x ho y hx cs d hc hu hd hi h.out⟩
theorem eql (t : TypeId) (x y : Operand) (t2 : TypeId) (ho : o.op = .binOp .eql t x y t2) (hk : ns.idxOf? k = none) (hw : Region.wanted o (yielded ops a.tmps) = true)
    (xs ys : Array Value) (hx : a.eval x = .agg xs) (hy : a.eval y = .agg ys) (hg : P.eqGuardType P.depth t = false) (b : Bool) (he : ∀ w, (Op.equalIn 10000 t (.agg xs) (.agg ys)).run P w = .ok b w)
    (h : W P ops D ns Q (k + 1) rest (a.put o.dst (.bool b))) : W P ops D ns Q k (o :: rest) a := ⟨Row.wpPh_eql t x y t2 ho hk hw xs ys hx hy hg b he h.out⟩
theorem neq (t : TypeId) (x y : Operand) (t2 : TypeId) (ho : o.op = .binOp .neq t x y t2) (hk : ns.idxOf? k = none) (hw : Region.wanted o (yielded ops a.tmps) = true)
    (xs ys : Array Value) (hx : a.eval x = .agg xs) (hy : a.eval y = .agg ys) (hg : P.eqGuardType P.depth t = false) (b : Bool) (he : ∀ w, (Op.equalIn 10000 t (.agg xs) (.agg ys)).run P w = .ok b w)
    (h : W P ops D ns Q (k + 1) rest (a.put o.dst (.bool (!b)))) : W P ops D ns Q k (o :: rest) a := ⟨Row.wpPh_neq t x y t2 ho hk hw xs ys hx hy hg b he h.out⟩
theorem store {p : Nat} (hk : ns.idxOf? k = some p) (hw : Region.wanted o (yielded ops a.tmps) = true)
    (ty : TypeId) (x y : Operand) (ho : o.op = .store ty x y) (q v : Value) (hx : a.eval x = q) (hy : a.eval y = v) (hs : ∀ w, D p w → ∃ w', (Instr.storeAt ty q v).run P w = .ok () w' ∧ D (p + 1) w')
    (h : W P ops D ns Q (k + 1) rest (a.put o.dst undef)) : W P ops D ns Q k (o :: rest) a := ⟨Row.wpPh_store hk hw ty x y ho q v hx hy hs h.out⟩
end
end Go.Proofs.Ytneaomdgjlmleaa.Pw
