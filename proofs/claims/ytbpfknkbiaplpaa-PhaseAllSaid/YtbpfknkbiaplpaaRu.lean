/- api.Run, api.Cue and package phase's turn as data; what a tick does; parts of blocks known whole: load, store, build. -/
import Derived.Test.YtbpfknkbiaplpaaRows
import Derived.Test.YtbpfknkbiaplpaaRow
import Derived.Test.YtbpfknkbiaplpaaBlk
import Derived.Test.YtbpfknkbiaplpaaCnt
import Derived.Test.YtbpfknkbiaplpaaTabArg
import Derived.Test.YtbpfknkbiaplpaaMayC
import Derived.Test.YtbpfknkbiaplpaaSameB
import Derived.Test.YtbpfknkbiaplpaaQL
import Derived.Test.YtbpfknkbiaplpaaQT
import Derived.Test.YtbpfknkbiaplpaaGapG
import Derived.Test.YtbpfknkbiaplpaaGapR
import Derived.Test.YtbpfknkbiaplpaaPed
import Derived.Test.YtbpfknkbiaplpaaHeld
import Derived.Deep.Cut
import Derived.StillTailTactics
namespace Go.Proofs.Ytbpfknkbiaplpaa.Ru
open Go Go.ChangeShapes Go.WideShapes Go.ChangeAt Go.RowKit
open Tab Flat TabArg QL
open May (infoP)
open Ped (ft cu idl Ft)
open Gap (lm lf gr Tn)
set_option linter.unusedVariables false
set_option linter.unusedSimpArgs false
set_option maxRecDepth 100000
structure Ru where
  co : Int
  tm : Int
  fs : Int
  ft : Int
  lf : Int
  pr : Int
  ex : Int
  dn : Bool
  mx : Bool
  tl : Int
  tu : Int
  td : Int
deriving DecidableEq
structure Cu where
  st : Bool
  en : Bool
  he : Bool
  pu : Bool
  ps : Bool
  ho : Bool
  ea : Bool
  kt : Bool
deriving DecidableEq
def Ru.cells (r : Ru) : List Value := [I r.co, I r.tm, I r.fs, I r.ft, I r.lf, I r.pr, I r.ex, .bool r.dn, .bool r.mx, I r.tl, I r.tu, I r.td]
def Cu.cells (c : Cu) : List Value := [.bool c.st, .bool c.en, .bool c.he, .bool c.pu, .bool c.ps, .bool c.ho, .bool c.ea, .bool c.kt]
def tuC (p : Ph) (r : Ru) (c : Cu) : List Value := p.cells ++ (r.cells ++ c.cells)
theorem flRu : flat Try.prog 4 29 = some [3, 3, 3, 3, 3, 3, 3, 4, 4, 3, 3, 3] := by kernel_rfl
theorem flRu5 : flat Try.prog 5 29 = some [3, 3, 3, 3, 3, 3, 3, 4, 4, 3, 3, 3] := by kernel_rfl
theorem flCu : flat Try.prog 4 31 = some [4, 4, 4, 4, 4, 4, 4, 4] := by kernel_rfl
theorem flCu5 : flat Try.prog 5 31 = some [4, 4, 4, 4, 4, 4, 4, 4] := by kernel_rfl
section
variable {H : Type} {enc : TypeId × Value → H} {P : Program} {w : World} {base : Nat} {spare : Nat → Bool} {held : Bool}
theorem ru_el : ∀ {cs : List Value}, All2 (Tr enc Try.prog w base spare held) [3, 3, 3, 3, 3, 3, 3, 4, 4, 3, 3, 3] cs → ∃ d : Ru, cs = d.cells
  | [_, _, _, _, _, _, _, _, _, _, _, _], ⟨h0, h1, h2, h3, h4, h5, h6, h7, h8, h9, h10, h11, _⟩ => by
    obtain ⟨v0, rfl⟩ := tr_int Try.underlying3 h0
    obtain ⟨v1, rfl⟩ := tr_int Try.underlying3 h1
    obtain ⟨v2, rfl⟩ := tr_int Try.underlying3 h2
    obtain ⟨v3, rfl⟩ := tr_int Try.underlying3 h3
    obtain ⟨v4, rfl⟩ := tr_int Try.underlying3 h4
    obtain ⟨v5, rfl⟩ := tr_int Try.underlying3 h5
    obtain ⟨v6, rfl⟩ := tr_int Try.underlying3 h6
    obtain ⟨v7, rfl⟩ := tr_bool Try.underlying4 h7
    obtain ⟨v8, rfl⟩ := tr_bool Try.underlying4 h8
    obtain ⟨v9, rfl⟩ := tr_int Try.underlying3 h9
    obtain ⟨v10, rfl⟩ := tr_int Try.underlying3 h10
    obtain ⟨v11, rfl⟩ := tr_int Try.underlying3 h11
    exact ⟨⟨v0, v1, v2, v3, v4, v5, v6, v7, v8, v9, v10, v11⟩, rfl⟩
theorem cu_el : ∀ {cs : List Value}, All2 (Tr enc Try.prog w base spare held) [4, 4, 4, 4, 4, 4, 4, 4] cs → ∃ d : Cu, cs = d.cells
  | [_, _, _, _, _, _, _, _], ⟨h0, h1, h2, h3, h4, h5, h6, h7, _⟩ => by
    obtain ⟨v0, rfl⟩ := tr_bool Try.underlying4 h0
    obtain ⟨v1, rfl⟩ := tr_bool Try.underlying4 h1
    obtain ⟨v2, rfl⟩ := tr_bool Try.underlying4 h2
    obtain ⟨v3, rfl⟩ := tr_bool Try.underlying4 h3
    obtain ⟨v4, rfl⟩ := tr_bool Try.underlying4 h4
    obtain ⟨v5, rfl⟩ := tr_bool Try.underlying4 h5
    obtain ⟨v6, rfl⟩ := tr_bool Try.underlying4 h6
    obtain ⟨v7, rfl⟩ := tr_bool Try.underlying4 h7
    exact ⟨⟨v0, v1, v2, v3, v4, v5, v6, v7⟩, rfl⟩
end
theorem ru_eqs (r q : Ru) : Same.Eqs 29 r.cells q.cells (decide (r = q)) := by
  obtain ⟨a0, a1, a2, a3, a4, a5, a6, a7, a8, a9, a10, a11⟩ := r
  obtain ⟨b0, b1, b2, b3, b4, b5, b6, b7, b8, b9, b10, b11⟩ := q
  refine Same.eqs_of flRu5 (by decide) (by kernel_rfl) [(I a0, I b0), (I a1, I b1), (I a2, I b2), (I a3, I b3), (I a4, I b4), (I a5, I b5), (I a6, I b6), (.bool a7, .bool b7), (.bool a8, .bool b8), (I a9, I b9), (I a10, I b10), (I a11, I b11)]
    ⟨Same.lint _ _, Same.lint _ _, Same.lint _ _, Same.lint _ _, Same.lint _ _, Same.lint _ _, Same.lint _ _, Same.lbool _ _, Same.lbool _ _, Same.lint _ _, Same.lint _ _, Same.lint _ _, trivial⟩ rfl rfl ?_
  simp [Ru.cells]
theorem ru_same (r : Ru) : Same.Eqs 29 r.cells r.cells true := by simpa using ru_eqs r r
theorem guardRu : Try.prog.eqGuardType Try.prog.depth 29 = false := by kernel_rfl
theorem infoRu : (Try.prog.info? 29).map (·.size) = some 12 := by kernel_rfl
theorem infoCu : (Try.prog.info? 31).map (·.size) = some 8 := by kernel_rfl
theorem infoTu : (Try.prog.info? 57).map (·.size) = some 33 := by kernel_rfl
theorem ret_bool {a b : Bool} (h : a = b) : Ending.returned (.bool a) = .returned (.bool b) := by rw [h]
theorem ret_ru {a b : Ru} (h : a = b) : Ending.returned (.agg a.cells.toArray) = .returned (.agg b.cells.toArray) := by rw [h]
theorem built0 : Try.prog.built 25 [] = some #[I 0, I 0] := by kernel_rfl
theorem builtT (r : Int) : Try.prog.built 27 [(0, I r)] = some #[I r, I 0, I 0] := by kernel_rfl
theorem built3 (k n a b c : Int) : Try.prog.built 29 [(0, I k), (1, I n), (8, .agg #[I a, I b, I c])] = some (Ru.cells ⟨k, n, 0, 0, 0, 0, 0, false, false, a, b, c⟩).toArray := by kernel_rfl
theorem built5 (k n s t l a b c : Int) : Try.prog.built 29 [(0, I k), (1, I n), (2, .agg #[I s, I t]), (3, I l), (8, .agg #[I a, I b, I c])] = some (Ru.cells ⟨k, n, s, t, l, 0, 0, false, false, a, b, c⟩).toArray := by kernel_rfl
theorem builtU (p : Ph) (r : Ru) (c : Cu) : Try.prog.built 57 [(0, .agg p.cells.toArray), (1, .agg r.cells.toArray), (2, .agg c.cells.toArray)] = some (tuC p r c).toArray := by kernel_rfl
theorem one_ru (r : Ru) : r.cells.toArray.all (·.oneCell') = true := by simp [Ru.cells, Value.oneCell']
theorem one_tu (p : Ph) (r : Ru) (c : Cu) : (tuC p r c).toArray.all (·.oneCell') = true := by simp [tuC, Ph.cells, Ru.cells, Cu.cells, Value.oneCell']
/-- A part of a block known whole. -/
theorem seg {w u : World} {L : List Blk.Bl} (h : Blk.Bks w L u) (i k : Nat) {g : Nat} {cs : Array Value} {t : TypeId} (hi : L[i]? = some (g, cs, t)) (l : List Value) (hs : (cs.toList.drop k).take l.length = l) : Lies u ⟨g, k, none⟩ l := fun j v hv => by
  rw [Addr.add_mid, cell_of_row _ _ _ _ _ _ (h.at i hi)]
  have hj : j < l.length := (List.getElem?_eq_some_iff.1 hv).1
  rw [← hs, List.getElem?_take, if_pos hj, List.getElem?_drop] at hv
  simpa using hv
/-- The steps of a walk over a block of the call's own: a part is stored. -/
theorem store_mid {P : Program} {ops : Array Oper} {rest : List Oper} {o : Oper} {a : Act} {w u : World} {L : List Blk.Bl} {Q : Exit → Act → World → Prop} (hgd : o.guard = none) (ty : TypeId) (x y : Operand) (ho : o.op = .store ty x y) (g off : Nat) (cells : Array Value) (hx : a.eval x = .pointer (some ⟨g, off, none⟩)) (hy : a.eval y = .agg cells)
    (t : TypeId) (cur V : Array Value) (H : Blk.Bks w L u) (i : Nat) (hb : L[i]? = some (g, cur, t)) (hi : (P.info? ty).map (·.size) = some cells.size) (hl : off + cells.size ≤ cur.size) (h1 : cells.all (·.oneCell') = true) (hV : (cur.toList.take off ++ cells.toList ++ cur.toList.drop (off + cells.size)).toArray = V)
    (h : wpList P ops Q rest (a.put o.dst undef) (u.setRow g V)) : wpList P ops Q (o :: rest) a u :=
  QL.wpList_store_mid hgd ty x y ho g off cells hx hy t cur (H.at i hb) hi hl h1 (by rw [hV]; exact h)
theorem wpList_build {P : Program} {ops : Array Oper} {Q : Exit → Act → World → Prop} {rest : List Oper} {o : Oper} {a : Act} {w : World} (hgd : o.guard = none) (t : TypeId) (parts : List (Nat × Operand)) (ho : o.op = .build t parts.toArray) (cells : Array Value) (vs : List (Nat × Value)) (hv : parts.map (fun (i, x) => (i, a.eval x)) = vs) (hb : P.built t vs = some cells)
    (h : wpList P ops Q rest (a.put o.dst (.agg cells)) w) : wpList P ops Q (o :: rest) a w :=
  wpList_plain hgd fun _ hK => by
    subst hv
    unfold Oper.wp execOp
    have hb' : P.built t (parts.toArray.map fun (i, x) => (i, a.eval x)).toList = some cells := by simpa using hb
    simp only [ho, Sem.run_bind, run_build w t _ _ hb', Result.andThen_ok, Sem.run_pure]
    exact hK _ _ h
/-! What a tick does. -/
variable (p : Ph) (r : Ru) (c : Cu)
def fst (k : Int) : Ru := ⟨k, 1, 0, 0, 0, 0, 0, false, false, r.tl, r.tu, r.td⟩
def lst (k : Int) : Ru := ⟨k, Cnt.more r.tm, 0, 0, 0, 0, 0, false, false, r.tl, r.tu, r.td⟩
def fooA : Ft := if c.kt = true ∧ r.fs = 1 then cu r.fs r.ft else ft p.walk p.blinks r.fs r.ft (c.pu && !c.ps)
/-- a walk begins -/
def beg : Bool := idl r.fs && decide ((fooA p r c).st = 1)
def lon : Ru := ⟨r.co, Cnt.more r.tm, (fooA p r c).st, (fooA p r c).tm, lf p.gap r.lf c.he, if c.ps then Cnt.more r.pr else r.pr, r.ex, r.dn && !beg p r c, r.mx && !beg p r c, r.tl, r.tu, r.td⟩
def fuB (n : Ru) : Bool := decide (lm p n.tl ≤ n.pr)
def duB (n : Ru) : Bool := c.ps && (!n.dn && (decide (p.min ≤ n.tm) && (idl n.fs && (decide (n.lf = 0) || (fuB p n || c.ea)))))
def sty (n : Ru) : Ru := if duB p c n then (if c.ho then { n with ex := Cnt.more n.ex } else { n with dn := true, mx := decide (0 < n.lf) && fuB p n }) else n
def tre : Tn := if r.dn then gr p ⟨r.tl, r.tu, r.td⟩ r.mx else ⟨r.tl, r.tu, r.td⟩
def fin : Ru := ⟨2, 1, 0, 0, 0, 0, 0, false, false, (tre p r).lim, (tre p r).up, (tre p r).down⟩
def yel : Ru := if r.tm < p.yellow then lst r 2 else if 0 < p.red then fst r 3 else fst r 0
def cle : Ru := if r.tm < p.red then lst r 3 else fst r 0
def rdR : Ru := if c.st then ⟨1, 1, (ft p.walk p.blinks 0 0 c.pu).st, (ft p.walk p.blinks 0 0 c.pu).tm, p.gap, 0, 0, false, false, r.tl, r.tu, r.td⟩ else lst r 0
def stp : Ru := if r.co = 1 then (if c.en then fin p r else sty p c (lon p r c)) else if r.co = 2 then yel p r else if r.co = 3 then cle p r else rdR p r c
def hld : Bool := decide (r.co = 1) && (!c.en && (c.ho && duB p c (lon p r c)))
def bgn : Ru := ⟨0, 9999, 0, 0, 0, 0, 0, false, false, p.max, 0, 0⟩
end Go.Proofs.Ytbpfknkbiaplpaa.Ru
