/- 23 texts in one file, in build order. -/
import Derived.Deep.MidRow
import Derived.Below
import Derived.Still
import Derived.StillTail
import Derived.Deep.QuietTactic
import Derived.Deep.WholeRow
import Derived.BigFrame
import Derived.Laws.StructEq
import Derived.Laws.CopyRow
import Derived.Laws.Rows
import Derived.Laws.Tables
import Derived.Laws.CopyOwn
import Derived.Test.YtkccepdifgldeaaDoorRows
import Derived.WalkKit
import Derived.WalkLawsBesides
import Derived.ProofKit
import Derived.IntWalk
import Derived.Lib.Hide
import Derived.OpenShut
import Derived.ChangeArms
import Derived.DeepKeys
import Derived.Deep.Slices
import Derived.ChangeSame
import Derived.Laws.Cover2
import Derived.LoopTactic
import Ieee.Arith
import Derived.Laws.FloatBits
import Derived.Laws.FloatArith
import Derived.BigQuiet
import Derived.Deep.RegionHeld
import Derived.Deep.Cut
import Derived.StillTailTactics
set_option linter.unusedVariables false
set_option linter.unusedSimpArgs false
set_option linter.unusedSectionVars false
set_option maxHeartbeats 8000000
set_option maxRecDepth 100000
namespace Go.Proofs.YtkccepdifgldeaaDoor
namespace Tab
open Go Go.RowKit
abbrev I (n : Int) : Value := .int .i64 n
abbrev F (n : Nat) : Value := .float .f64 n
structure Ph where
  on : Bool
  min : Int
  gap : Int
  max : Int
  top : Int
  step : Int
  yellow : Int
  red : Int
  walk : Int
  blinks : Int
  recall : Int
  lock : Bool
  rest : Bool
  deriving DecidableEq, Inhabited
structure Det where
  phase : Int
  on : Nat
  off : Nat
  delay : Nat
  extend : Nat
  maxOn : Int
  maxOff : Int
  deriving DecidableEq, Inhabited
structure Rl where
  bars : Int
  clear : Int
  dwell : Int
  exit : Int
  delay : Int
  green : Int
  foot : Int
  hold : Int
  stay : Int
  most : Int
  limit : Int
  deriving DecidableEq, Inhabited
structure Bs where
  set : Int
  lock : Int
  deriving DecidableEq, Inhabited
structure Tab where
  phases : List Ph
  groups : List (List Int × List Int)
  conflict : List Int
  dets : List Det
  rails : List Rl
  buses : List Bs
  extend : Int
  budget : Int
  start : Int
  revert : Int
  least : Int
  flash : List Int
  window : Int
  share : Int
  deriving DecidableEq, Inhabited
def Ph.cells (p : Ph) : List Value := [.bool p.on, I p.min, I p.gap, I p.max, I p.top, I p.step, I p.yellow, I p.red, I p.walk, I p.blinks, I p.recall, .bool p.lock, .bool p.rest]
def Det.cells (d : Det) : List Value := [I d.phase, F d.on, F d.off, F d.delay, F d.extend, I d.maxOn, I d.maxOff]
def Rl.cells (r : Rl) : List Value := [I r.bars, I r.clear, I r.dwell, I r.exit, I r.delay, I r.green, I r.foot, I r.hold, I r.stay, I r.most, I r.limit]
def Bs.cells (b : Bs) : List Value := [I b.set, I b.lock]
/-- Where a slice lies, and its capacity. -/
structure Sl where
  a : Option Addr
  cap : Nat
abbrev Sl.val (s : Sl) (n : Nat) : Value := .slice s.a n s.cap
def Lies (w : World) (x : Addr) (cs : List Value) : Prop := ∀ j v, cs[j]? = some v → w.cell? (x.add j) = some v
/-- Under a slice lie the elements l, each of n cells. -/
def RowOf {α : Type} (n : Nat) (enc : α → List Value) (w : World) (s : Sl) (l : List α) : Prop :=
  (s.a = none ∧ s.cap = 0 ∧ l = []) ∨ ∃ x, s.a = some x ∧ l.length ≤ s.cap ∧ s.cap ≤ maxLen ∧ ∀ i v, l[i]? = some v → Lies w (x.add (i * n)) (enc v)
abbrev IntRow (w : World) (s : Sl) (l : List Int) : Prop := RowOf 1 (fun n => [I n]) w s l
theorem add_zero (x : Addr) : x.add 0 = x := by cases x; simp [Addr.add]
theorem add_one (y : Addr) : y.add 1 = ⟨y.block, y.off + 1, none⟩ := by simp [Addr.add]
theorem add_two (x : Addr) (p i : Nat) : (x.add p).add i = x.add (p + i) := by
  unfold Addr.add
  by_cases hp : p = 0
  · subst hp; simp
  · by_cases hi : i = 0
    · subst hi; simp
    · simp [hp, hi, show ¬ (p + i = 0) by omega, Nat.add_assoc]
theorem Lies.below {w w' : World} {x : Addr} {cs : List Value} (h : Lies w x cs) (hb : Below w.heap.size w w') : Lies w' x cs := fun j v hv =>
  (hb.cell (World.block_lt_of_cell? w _ (h j v hv))).trans (h j v hv)
section
variable {α : Type} {n : Nat} {enc : α → List Value} {w w' : World} {s : Sl} {l : List α}
theorem RowOf.below (h : RowOf n enc w s l) (hb : Below w.heap.size w w') : RowOf n enc w' s l := by
  rcases h with h | ⟨x, h1, h2, h3, h4⟩
  · exact .inl h
  · exact .inr ⟨x, h1, h2, h3, fun i v hv => (h4 i v hv).below hb⟩
theorem RowOf.len (h : RowOf n enc w s l) : l.length ≤ s.cap ∧ s.cap ≤ maxLen := by
  rcases h with ⟨_, h1, rfl⟩ | ⟨x, h1, h2, h3, h4⟩
  · rw [h1]; exact ⟨Nat.le_refl _, Nat.zero_le _⟩
  · exact ⟨h2, h3⟩
theorem RowOf.at (h : RowOf n enc w s l) {i : Nat} {v : α} (hv : l[i]? = some v) : ∃ x, s.a = some x ∧ Lies w (x.add (i * n)) (enc v) := by
  rcases h with ⟨_, _, rfl⟩ | ⟨x, h1, h2, h3, h4⟩
  · simp at hv
  · exact ⟨x, h1, h4 i v hv⟩
theorem RowOf.nil (w : World) : RowOf n enc w ⟨none, 0⟩ [] := .inl ⟨rfl, rfl, rfl⟩
theorem IntRow.at {s : Sl} {l : List Int} (h : IntRow w s l) {i : Nat} {v : Int} (hv : l[i]? = some v) : ∃ x, s.a = some x ∧ w.cell? (x.add i) = some (I v) := by
  obtain ⟨x, hx, hl⟩ := RowOf.at h hv
  have := hl 0 _ rfl
  rw [Nat.mul_one, add_two, Nat.add_zero] at this
  exact ⟨x, hx, this⟩
end
/-- A group's rows, and where they lie. -/
structure Gr where
  r0 : List Int
  r1 : List Int
  s0 : Sl
  s1 : Sl
def Gr.cells (g : Gr) : List Value := [g.s0.val g.r0.length, g.s1.val g.r1.length]
def Gr.ok (w : World) (g : Gr) : Prop := IntRow w g.s0 g.r0 ∧ IntRow w g.s1 g.r1
def Gr.data (g : Gr) : List Int × List Int := (g.r0, g.r1)
def GroupsLie (w : World) (s : Sl) (gs : List Gr) : Prop := RowOf 2 Gr.cells w s gs ∧ ∀ g ∈ gs, g.ok w
theorem Gr.ok.below {w w' : World} {g : Gr} (h : g.ok w) (hb : Below w.heap.size w w') : g.ok w' := ⟨h.1.below hb, h.2.below hb⟩
theorem GroupsLie.below {w w' : World} {s : Sl} {gs : List Gr} (h : GroupsLie w s gs) (hb : Below w.heap.size w w') : GroupsLie w' s gs := ⟨h.1.below hb, fun g hg => (h.2 g hg).below hb⟩
theorem Ph.one (p : Ph) : p.cells.toArray.all (·.oneCell') = true := by simp [Ph.cells, Value.oneCell']
theorem Det.one (d : Det) : d.cells.toArray.all (·.oneCell') = true := by simp [Det.cells, Value.oneCell']
theorem Rl.one (r : Rl) : r.cells.toArray.all (·.oneCell') = true := by simp [Rl.cells, Value.oneCell']
theorem Bs.one (b : Bs) : b.cells.toArray.all (·.oneCell') = true := by simp [Bs.cells, Value.oneCell']
theorem Gr.one (g : Gr) : g.cells.toArray.all (·.oneCell') = true := by simp [Gr.cells, Value.oneCell']
/-- Where a table's four lists lie. -/
structure Hd where
  g : Sl
  d : Sl
  r : Sl
  b : Sl
def Tab.cells (T : Tab) (h : Hd) : List Value :=
  T.phases.flatMap Ph.cells ++ (h.g.val T.groups.length :: (T.conflict.map I ++ (h.d.val T.dets.length :: h.r.val T.rails.length :: h.b.val T.buses.length :: I T.extend :: I T.budget :: I T.start :: I T.revert :: I T.least ::
    (T.flash.map I ++ [I T.window, I T.share]))))
/-- A table's lists lie in memory as it says. -/
structure IsTab (w : World) (h : Hd) (T : Tab) : Prop where
  ph : T.phases.length = 8
  cf : T.conflict.length = 8
  fl : T.flash.length = 8
  groups : ∃ gs : List Gr, gs.map Gr.data = T.groups ∧ GroupsLie w h.g gs
  dets : RowOf 7 Det.cells w h.d T.dets
  rails : RowOf 11 Rl.cells w h.r T.rails
  buses : RowOf 2 Bs.cells w h.b T.buses
theorem IsTab.below {w w' : World} {h : Hd} {T : Tab} (k : IsTab w h T) (hb : Below w.heap.size w w') : IsTab w' h T :=
  ⟨k.ph, k.cf, k.fl, let ⟨gs, h1, h2⟩ := k.groups; ⟨gs, h1, h2.below hb⟩, k.dets.below hb, k.rails.below hb, k.buses.below hb⟩
theorem eight {α : Type} {l : List α} (h : l.length = 8) : ∃ a0 a1 a2 a3 a4 a5 a6 a7, l = [a0, a1, a2, a3, a4, a5, a6, a7] := by
  match l, h with
  | [a0, a1, a2, a3, a4, a5, a6, a7], _ => exact ⟨a0, a1, a2, a3, a4, a5, a6, a7, rfl⟩
/-- What stands where in a table's cells. -/
structure CellsOk (T : Tab) (h : Hd) (cs : Array Value) : Prop where
  size : cs.size = 131
  one : cs.all (·.oneCell') = true
  g : cs[104]? = some (h.g.val T.groups.length)
  d : cs[113]? = some (h.d.val T.dets.length)
  r : cs[114]? = some (h.r.val T.rails.length)
  b : cs[115]? = some (h.b.val T.buses.length)
  extend : cs[116]? = some (I T.extend)
  budget : cs[117]? = some (I T.budget)
  start : cs[118]? = some (I T.start)
  revert : cs[119]? = some (I T.revert)
  least : cs[120]? = some (I T.least)
  window : cs[129]? = some (I T.window)
  share : cs[130]? = some (I T.share)
  phases : cs.toList.take 104 = T.phases.flatMap Ph.cells
  conflict : (cs.toList.drop 105).take 8 = T.conflict.map I
  flash : (cs.toList.drop 121).take 8 = T.flash.map I
  phase : ∀ i p, T.phases[i]? = some p → (cs.toList.drop (13 * i)).take 13 = p.cells
theorem cells_ok {w : World} {h : Hd} {T : Tab} (k : IsTab w h T) : CellsOk T h (T.cells h).toArray := by
  obtain ⟨p0, p1, p2, p3, p4, p5, p6, p7, hp⟩ := eight k.ph
  obtain ⟨c0, c1, c2, c3, c4, c5, c6, c7, hc⟩ := eight k.cf
  obtain ⟨f0, f1, f2, f3, f4, f5, f6, f7, hf⟩ := eight k.fl
  clear k
  obtain ⟨phases, groups, conflict, dets, rails, buses, extend, budget, start, revert, least, flash, window, share⟩ := T
  simp only at hp hc hf
  subst hp hc hf
  constructor
  all_goals try rfl
  case one => simp [Tab.cells, Ph.cells, Value.oneCell']
  intro i p hp
  match i, hp with
  | 0, hp | 1, hp | 2, hp | 3, hp | 4, hp | 5, hp | 6, hp | 7, hp => 
    obtain rfl := Option.some.inj hp
    rfl
  | i + 8, hp => cases hp
/-- A block's part, out of what is known of its cells. -/
theorem range_of {w : World} {b : Nat} {C : Array Value} {t : TypeId} {fr : Nat × Nat} (hb : w.heap[b]? = some (.cells C t fr)) (o n : Nat) (cs : List Value) (h : (C.toList.drop o).take n = cs) : w.rangeAt b o cs := by
  subst h
  have h1 := World.rangeAt_of_block hb o n
  rwa [Array.toList_extract, List.extract, Nat.add_sub_cancel_left] at h1
end Tab
namespace Ph
open Go Go.RowKit
section
variable {P : Program} {ops : Array Oper} {md : Region.Mode} {D : Nat → World → Prop} {cs : List Nat}
/-- The first p of the chain have come up, and no other of it. -/
def Upto (cs : List Nat) (p : Nat) (L : Array Bool) : Prop := ∀ q c, cs[q]? = some c → L.getD c false = decide (q < p)
def Cl (D : Nat → World → Prop) (cs : List Nat) (L : Array Bool) (w : World) : Prop := ∃ p, p ≤ cs.length ∧ Upto cs p L ∧ D p w
def upon (P : Program) (C : World → Prop) (w : World) (v : Value) : Result Next → Prop
  | .ok (.value u) w' => w' = w ∧ u = v ∧ C w
  | .ok .skip w' => v = undef ∧ C w'
  | .ok (.enter f args) w' => w' = w ∧ Calls P f args w (fun e w'' => e = .returned v ∧ C w'')
  | _ => False
def Steps (P : Program) (md : Region.Mode) (ops : Array Oper) (D : Nat → World → Prop) (cs : List Nat) (i : Nat) (o : Oper) (a : Act) (v : Value) : Prop :=
  ∀ L w, L.size = ops.size → i ∈ Region.ready md ops L → Cl D cs L w → upon P (Cl D cs (L.setIfInBounds i true)) w v ((execOp a.eval o).run P w)
def Passes (md : Region.Mode) (ops : Array Oper) (D : Nat → World → Prop) (cs : List Nat) (i : Nat) : Prop :=
  ∀ L w, L.size = ops.size → i ∈ Region.ready md ops L → Cl D cs L w → Cl D cs (L.setIfInBounds i true) w
def pOp (P : Program) (md : Region.Mode) (ops : Array Oper) (D : Nat → World → Prop) (cs : List Nat) (i : Nat) (K : Act → Prop) (a : Act) : Prop :=
  match ops[i]? with
  | none => False
  | some o => if Region.wanted o (yielded ops a.tmps) then ∃ v, Steps P md ops D cs i o a v ∧ K (a.put o.dst v) else Passes md ops D cs i ∧ K (a.put o.dst undef)
theorem pOp_mono {i : Nat} {a : Act} {K K' : Act → Prop} (h : ∀ a, K a → K' a) (hh : pOp P md ops D cs i K a) : pOp P md ops D cs i K' a := by
  unfold pOp at *
  split
  · rename_i ho; simp only [ho] at hh
  · rename_i o ho
    simp only [ho] at hh
    split
    · rename_i hw; simp only [hw, if_true] at hh; exact ⟨hh.choose, hh.choose_spec.1, h _ hh.choose_spec.2⟩
    · rename_i hw; simp only [hw] at hh; exact ⟨hh.1, h _ hh.2⟩
def wpAnyP (P : Program) (md : Region.Mode) (ops : Array Oper) (D : Nat → World → Prop) (cs : List Nat) (Q : Array Bool → Act → Prop) : Nat → Array Bool → Act → Prop
  | 0, listed, a => Region.ready md ops listed = [] ∧ Q listed a
  | fuel + 1, listed, a =>
    Region.ready md ops listed ≠ [] ∧
    ∀ i ∈ Region.ready md ops listed, pOp P md ops D cs i (wpAnyP P md ops D cs Q fuel (listed.setIfInBounds i true)) a
theorem wpAny_of_ph {Q : Array Bool → Act → Prop} {Q' : Exit → Act → World → Prop} (hQ : ∀ L a w, Cl D cs L w → Q L a → Q' .normal a w) : ∀ (fuel : Nat) (listed : Array Bool) (a : Act) (w : World), listed.size = ops.size → Cl D cs listed w →
    wpAnyP P md ops D cs Q fuel listed a → wpAny P md ops Q' fuel listed a w
  | 0, _, _, _, _, hw, h => ⟨h.1, hQ _ _ _ hw h.2⟩
  | fuel + 1, listed, a, w, hsz, hw, h => ⟨fun h0 => absurd h0 h.1, fun i hi => by
      have h1 := h.2 i hi
      unfold pOp at h1
      unfold wpOp
      split
      · rename_i ho; simp only [ho] at h1
      · rename_i o ho
        simp only [ho] at h1
        split
        · rename_i hwt
          simp only [hwt, if_true] at h1
          obtain ⟨v, hst, hK⟩ := h1
          refine .inl ?_
          have h2 := hst listed w hsz hi hw
          unfold Oper.wp
          generalize (execOp a.eval o).run P w = r at *
          have hsz' : (listed.setIfInBounds i true).size = ops.size := by simpa using hsz
          cases r with
          | ok n w' =>
            cases n <;> simp only [upon] at h2 <;> simp only [Oper.upon]
            case value u =>
              obtain ⟨rfl, rfl, hC⟩ := h2
              exact wpAny_of_ph hQ fuel _ _ _ hsz' hC hK
            case skip =>
              obtain ⟨rfl, hC⟩ := h2
              exact wpAny_of_ph hQ fuel _ _ _ hsz' hC hK
            case enter f args =>
              obtain ⟨rfl, hc⟩ := h2
              exact hc.mono fun e w'' ⟨he, hC⟩ => by subst he; exact wpAny_of_ph hQ fuel _ _ _ hsz' hC hK
          | halt x w' => simp only [upon] at h2
        · rename_i hwt
          simp only [hwt] at h1
          exact wpAny_of_ph hQ fuel _ _ _ (by simpa using hsz) (h1.1 listed w hsz hi hw) h1.2⟩
def YieldsP (P : Program) (md : Region.Mode) (ops : Array Oper) (D : Nat → World → Prop) (cs : List Nat) (i : Nat) (o : Oper) (v : Value) (a : Act) : Prop :=
  (Region.wanted o (yielded ops a.tmps) = true ∧ Steps P md ops D cs i o a v) ∨ (Region.wanted o (yielded ops a.tmps) = false ∧ v = undef ∧ Passes md ops D cs i)
theorem YieldsP.pOp {i : Nat} {o : Oper} {v : Value} {a : Act} (hi : ops[i]? = some o) (hy : YieldsP P md ops D cs i o v a) {K : Act → Prop} (h : K (a.put o.dst v)) : pOp P md ops D cs i K a := by
  unfold Ph.pOp
  simp only [hi]
  rcases hy with ⟨hw, hv⟩ | ⟨hw, rfl, hp⟩
  · simp only [hw, if_true]; exact ⟨v, hv, h⟩
  · simp only [hw, Bool.false_eq_true, if_false]; exact ⟨hp, h⟩
theorem YieldsP.of_same {i : Nat} {o : Oper} {v : Value} {a a' : Act} (hy : YieldsP P md ops D cs i o v a) (he : execOp a'.eval o = execOp a.eval o)
    (hw : Region.wanted o (yielded ops a'.tmps) = Region.wanted o (yielded ops a.tmps)) : YieldsP P md ops D cs i o v a' := by
  unfold YieldsP Steps at *
  rw [he, hw]
  exact hy
theorem yieldsP_of_pOp {i : Nat} {o : Oper} {a : Act} {K : Act → Prop} (hi : ops[i]? = some o) (h : pOp P md ops D cs i K a) : ∃ v, YieldsP P md ops D cs i o v a ∧ K (a.put o.dst v) := by
  unfold pOp at h
  simp only [hi] at h
  by_cases hw : Region.wanted o (yielded ops a.tmps) = true
  · simp only [hw, if_true] at h
    obtain ⟨v, h1, h2⟩ := h
    exact ⟨v, .inl ⟨hw, h1⟩, h2⟩
  · simp only [hw] at h
    exact ⟨undef, .inr ⟨by simpa using hw, rfl, h.1⟩, h.2⟩
theorem pOp_put {i j : Nat} {oi oj : Oper} {v : Value} (hj : ops[j]? = some oj) (hap : oi.apart ops oj = true)
    (hsi : ∀ cs b, oi.op ≠ .select cs b) (hsj : ∀ cs b, oj.op ≠ .select cs b) {K : Act → Prop} {a : Act}
    (hy : YieldsP P md ops D cs i oi v a) (h : pOp P md ops D cs j K (a.put oi.dst v)) :
    pOp P md ops D cs j (fun a' => YieldsP P md ops D cs i oi v a' ∧ K (a'.put oi.dst v)) a := by
  obtain ⟨h1, h2, h3⟩ := Oper.apart_spec hap
  have keep : ∀ (a : Act), YieldsP P md ops D cs i oi v a → ∀ u, YieldsP P md ops D cs i oi v (a.put oj.dst u) := fun a hy u =>
    hy.of_same (execOp_put oi hsi a oj.dst u h3) (wanted_put oi a oj.dst u h3)
  unfold pOp at *
  simp only [hj] at *
  rw [wanted_put oj a oi.dst v h1] at h
  split
  · rename_i hw
    simp only [hw, if_true] at h
    obtain ⟨u, hu, hn⟩ := h
    refine ⟨u, ?_, keep a hy u, by rw [← Act.put_comm a v u h2]; exact hn⟩
    unfold Steps at *
    rwa [execOp_put oj hsj a oi.dst v h1] at hu
  · rename_i hw
    simp only [hw] at h
    exact ⟨h.1, keep a hy _, by rw [← Act.put_comm a v undef h2]; exact h.2⟩
theorem wpAnyP_first {Q : Array Bool → Act → Prop} {i : Nat} {oi : Oper} {v : Value} (hi : ops[i]? = some oi) (hsel : ∀ (j : Nat) (o : Oper) cs b, ops[j]? = some o → o.op ≠ .select cs b) :
    ∀ (fuel : Nat) (listed : Array Bool) (a : Act),
      (∀ j oj, ops[j]? = some oj → j ≠ i → listed.getD j true = false → (∀ e ∈ oj.after, Region.binds md e = true → e.on ≠ i) → oi.apart ops oj = true) →
      i ∈ Region.ready md ops listed → YieldsP P md ops D cs i oi v a →
      wpAnyP P md ops D cs Q fuel (listed.setIfInBounds i true) (a.put oi.dst v) → wpAnyP P md ops D cs Q (fuel + 1) listed a := by
  intro fuel
  induction fuel with
  | zero =>
    intro listed a _ hr hy H
    refine ⟨fun h => (by rw [h] at hr; cases hr), fun j hj => ?_⟩
    by_cases hji : j = i
    · subst hji; exact hy.pOp hi H
    · have := ready_mono hj hji
      rw [H.1] at this
      cases this
  | succ fuel ih =>
    intro listed a hfree hr hy H
    refine ⟨fun h => (by rw [h] at hr; cases hr), fun j hj => ?_⟩
    by_cases hji : j = i
    · subst hji; exact hy.pOp hi H
    · have h1 := H.2 j (ready_mono hj hji)
      obtain ⟨hjun, oj, hoj, hall⟩ := mem_ready.1 hj
      have hnot : ∀ e ∈ oj.after, Region.binds md e = true → e.on ≠ i := fun e he hb heq => by
        have h1 := hall e he hb
        have h0 := (mem_ready.1 hr).1
        rw [heq] at h1
        rcases Nat.lt_or_ge i listed.size with h' | h'
        · simp [h'] at h0 h1; rw [h0] at h1; cases h1
        · simp [Array.getElem?_eq_none h'] at h1
      have h2 := pOp_put hoj (hfree j oj hoj hji hjun hnot) (fun cs b => hsel i oi cs b hi) (fun cs b => hsel j oj cs b hoj) hy h1
      have hfree' : ∀ k ok, ops[k]? = some ok → k ≠ i → (listed.setIfInBounds j true).getD k true = false →
          (∀ e ∈ ok.after, Region.binds md e = true → e.on ≠ i) → oi.apart ops ok = true := fun k ok hk hki hun hno => by
        refine hfree k ok hk hki ?_ hno
        by_cases hjk : j = k
        · subst hjk; exact hjun
        · rw [getD_set_ne true hjk] at hun; exact hun
      refine pOp_mono (fun a' h3 => ih (listed.setIfInBounds j true) a' hfree' (ready_mono hr (Ne.symm hji)) h3.1 ?_) h2
      rw [Array.setIfInBounds_comm _ _ hji]
      exact h3.2
/-- A world, and how far the chain has come. -/
structure S (D : Nat → World → Prop) where
  ph : Nat
  world : World
  is : D ph world
/-- An operation that reads, the same value in every phase; a call may leave another world of the phase. -/
def Oper.calmUpon (P : Program) (C : World → Prop) (w : World) (v : Value) : Result Next → Prop
  | .ok (.value u) w' => w' = w ∧ u = v
  | .ok .skip w' => w' = w ∧ v = undef
  | .ok (.enter f args) w' => w' = w ∧ Calls P f args w (fun e w'' => e = .returned v ∧ C w'')
  | _ => False
def Oper.calm (P : Program) (o : Oper) (a : Act) (D : Nat → World → Prop) (next : Act → Prop) : Prop := ∃ v, (∀ p : S D, Oper.calmUpon P (D p.ph) p.world v ((execOp a.eval o).run P p.world)) ∧ next (a.put o.dst v)
/-- The chain's operation number p. -/
def Oper.linkUpon (P : Program) (C : World → Prop) (w : World) (v : Value) : Result Next → Prop
  | .ok .skip w' => v = undef ∧ C w'
  | .ok (.enter f args) w' => w' = w ∧ Calls P f args w (fun e w'' => e = .returned v ∧ C w'')
  | _ => False
def Oper.link (P : Program) (o : Oper) (a : Act) (C C' : World → Prop) (next : Act → Prop) : Prop := ∃ v, (∀ w, C w → Oper.linkUpon P C' w v ((execOp a.eval o).run P w)) ∧ next (a.put o.dst v)
/-- The lexical walk. -/
def wpPh (P : Program) (ops : Array Oper) (D : Nat → World → Prop) (cs : List Nat) (Q : Act → Prop) : Nat → List Oper → Act → Prop
  | _, [], a => Q a
  | k, o :: rest, a =>
    match cs.idxOf? k with
    | some p => Region.wanted o (yielded ops a.tmps) = true ∧ Oper.link P o a (D p) (D (p + 1)) (wpPh P ops D cs Q (k + 1) rest)
    | none => if Region.wanted o (yielded ops a.tmps) then Oper.calm P o a D (wpPh P ops D cs Q (k + 1) rest) else wpPh P ops D cs Q (k + 1) rest (a.put o.dst undef)
theorem upto_other {p k : Nat} {L : Array Bool} (hk : k ∉ cs) (h : Upto cs p L) : Upto cs p (L.setIfInBounds k true) := by
  intro q c hq
  have hne : k ≠ c := fun e => hk (by rw [e]; exact List.mem_of_getElem? hq)
  rw [getD_set_ne false hne]; exact h q c hq
theorem steps_of_calm {k : Nat} {o : Oper} {a : Act} {v : Value} (hk : k ∉ cs) (h : ∀ p : S D, Oper.calmUpon P (D p.ph) p.world v ((execOp a.eval o).run P p.world)) : Steps P md ops D cs k o a v := by
  intro L w _ _ ⟨p, hp, hat, hd⟩
  have h1 := h ⟨p, w, hd⟩
  simp only at h1
  generalize (execOp a.eval o).run P w = r at *
  cases r with
  | ok n w' =>
    cases n <;> simp only [Oper.calmUpon] at h1 <;> simp only [upon]
    case value u => exact ⟨h1.1, h1.2, p, hp, upto_other hk hat, hd⟩
    case skip => exact ⟨h1.2, p, hp, upto_other hk hat, by rw [h1.1]; exact hd⟩
    case enter f args => exact ⟨h1.1, h1.2.mono fun e w'' ⟨he, hd'⟩ => ⟨he, p, hp, upto_other hk hat, hd'⟩⟩
  | halt x w' => simp only [Oper.calmUpon] at h1
theorem passes_of {k : Nat} (hk : k ∉ cs) : Passes md ops D cs k := fun L w _ _ ⟨p, hp, hat, hd⟩ => ⟨p, hp, upto_other hk hat, hd⟩
def chainOk (md : Region.Mode) (ops : Array Oper) (cs : List Nat) : Bool :=
  decide cs.Nodup && (List.range cs.length).all fun p => decide (p = 0) || Region.waitsFor md ops (cs.getD p 0) (cs.getD (p - 1) 0)
theorem steps_of_link {k p : Nat} {o : Oper} {a : Act} {v : Value} (hc : chainOk md ops cs = true) (hk : cs[p]? = some k)
    (h : ∀ w, D p w → Oper.linkUpon P (D (p + 1)) w v ((execOp a.eval o).run P w)) : Steps P md ops D cs k o a v := by
  intro L w hsz hr ⟨p', hp, hat, hd⟩
  simp only [chainOk, Bool.and_eq_true, decide_eq_true_eq] at hc
  obtain ⟨hnd, hall⟩ := hc
  have hpl : p < cs.length := (List.getElem?_eq_some_iff.1 hk).1
  obtain ⟨hun, ok, hok, hedges⟩ := mem_ready.1 hr
  have hkl : k < L.size := by rw [hsz]; exact (Array.getElem?_eq_some_iff.1 hok).1
  have h1 := hat p k hk
  rw [getD_both hun] at h1
  have h2 : ¬ p < p' := fun hlt => by rw [decide_eq_true hlt] at h1; cases h1
  have h3 : p ≤ p' := by
    by_cases h0 : p = 0
    · omega
    · have h4 := List.all_eq_true.1 hall p (List.mem_range.2 hpl)
      simp only [Bool.or_eq_true, decide_eq_true_eq] at h4
      rcases h4 with h4 | h4
      · omega
      · rw [List.getD_eq_getElem?_getD, hk, Option.getD_some] at h4
        obtain ⟨oj, hoj, e, he, hb, hon⟩ := Region.waitsFor_spec h4
        have : oj = ok := Option.some.inj (hoj.symm.trans hok)
        subst this
        have h5 := hedges e he hb
        have h6 : cs[p - 1]? = some (cs.getD (p - 1) 0) := by
          rw [List.getD_eq_getElem?_getD, List.getElem?_eq_getElem (show p - 1 < cs.length by omega)]; rfl
        have h7 := hat (p - 1) _ h6
        rw [← hon, h5] at h7
        have := of_decide_eq_true h7.symm
        omega
  obtain rfl : p' = p := by omega
  have hnew : Upto cs (p' + 1) (L.setIfInBounds k true) := by
    intro q c hq
    by_cases hck : k = c
    · subst hck
      have hqp : q = p' := by
        have hql : q < cs.length := (List.getElem?_eq_some_iff.1 hq).1
        have e1 : cs[q] = cs[p'] := by
          have a1 := List.getElem?_eq_some_iff.1 hq
          have a2 := List.getElem?_eq_some_iff.1 hk
          rw [a1.2, a2.2]
        have h10 := List.pairwise_iff_getElem.1 hnd
        rcases Nat.lt_trichotomy q p' with h11 | h11 | h11
        · exact absurd e1 (h10 q p' hql hpl h11)
        · exact h11
        · exact absurd e1.symm (h10 p' q hpl hql h11)
      subst hqp
      rw [decide_eq_true (by omega)]
      simp [hkl]
    · rw [getD_set_ne false hck, hat q c hq]
      have hqp : q ≠ p' := fun e => by subst e; rw [hk] at hq; exact hck (Option.some.inj hq)
      by_cases h8 : q < p'
      · rw [decide_eq_true h8, decide_eq_true (by omega)]
      · rw [decide_eq_false h8, decide_eq_false (by omega)]
  have h9 := h w hd
  generalize (execOp a.eval o).run P w = r at *
  cases r with
  | ok n w' =>
    cases n <;> simp only [Oper.linkUpon] at h9 <;> simp only [upon]
    case skip => exact ⟨h9.1, p' + 1, by omega, hnew, h9.2⟩
    case enter f args => exact ⟨h9.1, h9.2.mono fun e w'' ⟨he, hd'⟩ => ⟨he, p' + 1, by omega, hnew, hd'⟩⟩
  | halt x w' => simp only [Oper.linkUpon] at h9
def lexFromP (md : Region.Mode) (ops : Array Oper) (cs : List Nat) : Nat → Nat → Array Bool → Bool
  | 0, _, listed => (Region.ready md ops listed).isEmpty && cs.all fun c => listed.getD c false
  | fuel + 1, k, listed => (Region.ready md ops listed).contains k && Region.free md ops listed k && lexFromP md ops cs fuel (k + 1) (listed.setIfInBounds k true)
theorem idxOf_some {k p : Nat} (h : cs.idxOf? k = some p) : cs[p]? = some k := by
  have h1 := List.findIdx?_eq_some_iff_getElem.1 (by simpa [List.idxOf?] using h)
  obtain ⟨hp, h2, _⟩ := h1
  rw [List.getElem?_eq_getElem hp]
  simpa using h2
theorem idxOf_none {k : Nat} (h : cs.idxOf? k = none) : k ∉ cs := by
  intro hm
  have h1 : ∀ x ∈ cs, ¬ x = k := by simpa [List.idxOf?] using h
  exact h1 k hm rfl
theorem wpAnyP_lex {Q : Act → Prop} (hs : Region.noSelect ops = true) (hc : chainOk md ops cs = true) : ∀ (l : List Oper) (k : Nat) (listed : Array Bool) (a : Act), (∀ j, l[j]? = ops[k + j]?) →
    lexFromP md ops cs l.length k listed = true → wpPh P ops D cs Q k l a → wpAnyP P md ops D cs (fun L a => (cs.all fun c => L.getD c false) = true ∧ Q a) l.length listed a
  | [], _, _, _, _, hB, h => by
    simp only [List.length_nil, lexFromP, Bool.and_eq_true] at hB
    exact ⟨by simpa using hB.1, hB.2, h⟩
  | o :: l, k, listed, a, hl, hB, h => by
    have h0 : ops[k]? = some o := by simpa using (hl 0).symm
    simp only [List.length_cons, lexFromP, Bool.and_eq_true] at hB
    obtain ⟨⟨hr, hf⟩, hB'⟩ := hB
    have hst : pOp P md ops D cs k (wpPh P ops D cs Q (k + 1) l) a := by
      unfold pOp
      simp only [h0]
      unfold wpPh at h
      split at h
      · rename_i p hp
        obtain ⟨hw, v, h1, h2⟩ := h
        rw [if_pos hw]
        exact ⟨v, steps_of_link hc (idxOf_some hp) h1, h2⟩
      · rename_i hp
        have hk := idxOf_none hp
        split
        · rename_i hw
          rw [if_pos hw] at h
          obtain ⟨v, h1, h2⟩ := h
          exact ⟨v, steps_of_calm hk h1, h2⟩
        · rename_i hw
          rw [if_neg hw] at h
          exact ⟨passes_of hk, h⟩
    obtain ⟨v, hy, hK⟩ := yieldsP_of_pOp h0 hst
    exact wpAnyP_first h0 (Region.noSelect_spec hs) l.length listed a (Region.free_spec h0 hf) (by simpa using hr) hy
      (wpAnyP_lex hs hc l (k + 1) _ _ (fun j => by have := hl (j + 1); simpa [Nat.add_assoc, Nat.add_comm 1 j] using this) hB' hK)
def okB (md : Region.Mode) (ops : Array Oper) (cs : List Nat) : Bool := Region.noSelect ops && chainOk md ops cs && lexFromP md ops cs ops.size 0 (Array.replicate ops.size false)
/-- **The law.** What stands behind the region is asked in every world in which the chain has come to its end. -/
theorem wp_region_ph {id : Nat} {Q : Exit → Act → World → Prop} {a : Act} {w : World} {l : List Oper} (D : Nat → World → Prop) (cs : List Nat) (hm : P.follows .mixedOrders = true) (hB : okB .any l.toArray cs = true) (hD : D 0 w.drew)
    (h : wpPh P l.toArray D cs (fun a' => ∀ w', D cs.length w' → Q .normal a' w') 0 l a) : (Code.region id l.toArray true).wp P Q a w := by
  simp only [okB, Bool.and_eq_true] at hB
  obtain ⟨⟨hs, hc⟩, hlex⟩ := hB
  have h1 := wpAnyP_lex (md := .any) hs hc l 0 (Array.replicate l.toArray.size false) a (by simp) (by simpa using hlex) h
  refine wp_region_any hm ?_
  refine wpAny_of_ph (D := D) (cs := cs) (Q := fun L a => (cs.all fun c => L.getD c false) = true ∧ ∀ w', D cs.length w' → Q .normal a w') (fun L a w ⟨p, hp, hat, hd⟩ ⟨hall, hq⟩ => ?_) _ _ _ _ (by simp) ⟨0, Nat.zero_le _, fun q c _ => by rw [getD_replicate_false]; simp, hD⟩ (by simpa using h1)
  have hpe : p = cs.length := by
    rcases Nat.lt_or_ge p cs.length with h2 | h2
    · have h3 := hat p _ (List.getElem?_eq_getElem h2)
      have h4 := List.all_eq_true.1 hall _ (List.getElem_mem h2)
      rw [h4] at h3
      have := of_decide_eq_true h3.symm
      omega
    · omega
  subst hpe
  exact hq w hd
/-! the walk, a step at a time -/
end
attribute [go_sem] Oper.calm Oper.calmUpon Oper.link Oper.linkUpon
end Ph
namespace Row
open Go Go.RowKit
open Tab
section
variable {P : Program}
theorem run_loadVar_lies (w : World) (y : Addr) (ty : TypeId) (cs : List Value) (d : TypeDesc) (hc : Lies w y cs) (hu : P.underlying ty = some d) (hd : d.isRow = true) (hi : (P.info? ty).map (·.size) = some cs.length) :
    (loadVar ty y).run P w = .ok (.agg cs.toArray) w := by
  have hl : (loadCells y cs.length).run P w = .ok cs.toArray w := run_loadCells_list (P := P) w y cs (fun j v hv => hc j v hv)
  cases hq : P.info? ty with
  | none => simp [hq] at hi
  | some i =>
    have hs : i.size = cs.length := by simpa [hq] using hi
    have hagg : (isAgg ty).run P w = .ok true w := by
      unfold isAgg
      rw [Sem.run_bind, run_underlying hu w]
      cases d <;> simp_all
    simp [loadVar, Sem.run_bind, hagg, sizeOf, typeInfo, hq, hs, hl]
theorem wp_load_lies {op : Oper} {a : Act} {w : World} {K : Act → World → Prop} {Q : Exit → Act → World → Prop} (ty : TypeId) (x : Operand) (ho : op.op = .load ty x)
    (y : Addr) (hx : a.eval x = .pointer (some y)) (cs : List Value) (d : TypeDesc) (hc : Lies w y cs) (hu : P.underlying ty = some d) (hd : d.isRow = true) (hi : (P.info? ty).map (·.size) = some cs.length)
    (h : K (a.put op.dst (.agg cs.toArray)) w) : op.wp P a w K Q := by
  unfold Oper.wp execOp
  simp only [ho, hx, Instr.loadAt, Instr.sureAddr, Sem.run_bind, Sem.run_pure, Result.andThen_ok, run_loadVar_lies w y ty cs d hc hu hd hi]
  exact h
/-- Behind a guard that says yes. -/
theorem wpList_load_g {ops : Array Oper} {rest : List Oper} {op : Oper} {a : Act} {w : World} {Q : Exit → Act → World → Prop} (ty : TypeId) (x : Operand) (ho : op.op = .load ty x) (hw : Region.wanted op (yielded ops a.tmps) = true)
    (y : Addr) (hx : a.eval x = .pointer (some y)) (cs : List Value) (d : TypeDesc) (hc : Lies w y cs) (hu : P.underlying ty = some d) (hd : d.isRow = true) (hi : (P.info? ty).map (·.size) = some cs.length)
    (h : wpList P ops Q rest (a.put op.dst (.agg cs.toArray)) w) : wpList P ops Q (op :: rest) a w :=
  BigFrame.wpList_want hw fun _ hK => wp_load_lies ty x ho y hx cs d hc hu hd hi (hK _ _ h)
/-- A whole row into the block that was made last. -/
theorem wpList_store_new {ops : Array Oper} {rest : List Oper} {op : Oper} {a : Act} {w : World} {Q : Exit → Act → World → Prop} (hgd : op.guard = none) (ty : TypeId) (x y : Operand) (ho : op.op = .store ty x y)
    (w0 : World) (old cells : Array Value) (hw : w = w0.alloc (.cells old ty)) (hx : a.eval x = .pointer (some ⟨w0.heap.size, 0, none⟩)) (hy : a.eval y = .agg cells) (hi : (P.info? ty).map (·.size) = some cells.size) (hold : old.size = cells.size) (h1 : cells.all (·.oneCell') = true)
    (h : wpList P ops Q rest (a.put op.dst undef) (w0.alloc (.cells cells ty))) : wpList P ops Q (op :: rest) a w := by
  subst hw
  refine wpList_store_row hgd ty x y ho w0.heap.size cells hx hy ty old (heap_alloc_new w0 _) hi hold h1 ?_
  rw [World.setRow_alloc_new]
  exact h
theorem lies_new (w : World) (cs : Array Value) (t : TypeId) : Lies (w.alloc (.cells cs t)) ⟨w.heap.size, 0, none⟩ cs.toList := fun j v hv => by
  rw [Addr.add_mid, cell_of_row _ _ _ _ _ _ (heap_alloc_new w _), Nat.zero_add]
  simpa using hv
theorem lies_of_block {w : World} {g : Nat} {cs : Array Value} {t : TypeId} {fr : Nat × Nat} (hg : w.heap[g]? = some (.cells cs t fr)) : Lies w ⟨g, 0, none⟩ cs.toList := fun j v hv => by
  rw [Addr.add_mid, cell_of_row _ _ _ _ _ _ hg, Nat.zero_add]
  simpa using hv
/-! ### two rows compared -/
theorem run_neq_op (w : World) {a : Act} {o : Oper} (t : TypeId) (x y : Operand) (t2 : TypeId) (ho : o.op = .binOp .neq t x y t2) (xs ys : Array Value) (hx : a.eval x = .agg xs) (hy : a.eval y = .agg ys) (hg : P.eqGuardType P.depth t = false) (b : Bool)
    (he : ∀ w, (Op.equalIn 10000 t (.agg xs) (.agg ys)).run P w = .ok b w) : (execOp a.eval o).run P w = .ok (.value (.bool (!b))) w := by
  unfold execOp
  simp only [ho, hx, hy, Sem.run_bind, run_eqGuard_agg w .neq t x y xs ys hg, Result.andThen_ok, run_neq_struct, he w, Sem.run_pure]
theorem wpList_neq {ops : Array Oper} {rest : List Oper} {o : Oper} {a : Act} {w : World} {Q : Exit → Act → World → Prop} (t : TypeId) (x y : Operand) (t2 : TypeId) (ho : o.op = .binOp .neq t x y t2) (hw : Region.wanted o (yielded ops a.tmps) = true)
    (xs ys : Array Value) (hx : a.eval x = .agg xs) (hy : a.eval y = .agg ys) (hg : P.eqGuardType P.depth t = false) (b : Bool) (he : ∀ w, (Op.equalIn 10000 t (.agg xs) (.agg ys)).run P w = .ok b w)
    (h : wpList P ops Q rest (a.put o.dst (.bool (!b))) w) : wpList P ops Q (o :: rest) a w :=
  BigFrame.wpList_want hw fun _ hK => by
    unfold Oper.wp
    rw [run_neq_op w t x y t2 ho xs ys hx hy hg b he]
    exact hK _ _ h
/-- A store of a row into the middle of a block known whole. -/
theorem run_storeAt_at (w : World) (g o : Nat) (t ty : TypeId) (cur cells : Array Value) (hg : w.heap[g]? = some (.cells cur t (0, 0))) (hi : (P.info? ty).map (·.size) = some cells.size) (hl : o + cells.size ≤ cur.size) (h1 : cells.all (·.oneCell') = true) :
    (Instr.storeAt ty (.pointer (some ⟨g, o, none⟩)) (.agg cells)).run P w = .ok () (w.setRow g (cur.toList.take o ++ cells.toList ++ cur.toList.drop (o + cells.size)).toArray) := by
  have := run_storeCells_at P g o t cells.toList 0 cur w hg (by simpa using hl) (fun v hv => (Array.all_eq_true_iff_forall_mem.1 h1) v (by simpa using hv))
  cases hq : P.info? ty with
  | none => simp [hq] at hi
  | some i =>
    have hs : cells.size = i.size := by simp [hq] at hi; omega
    simp only [Nat.add_zero, Array.length_toList] at this
    simp [Instr.storeAt, Instr.sureAddr, storeVar, sizeOf, typeInfo, hq, Value.cells, hs]
    rw [← hs]
    simpa using this
/-- The class of a region whose calls leave all that is older alone. -/
abbrev Old (w : World) : Nat → World → Prop := fun _ w' => Below w.heap.size w w'
theorem Old.drew (w : World) : Old w 0 w.drew := (Below.refl _ _).drew
end
end Row
namespace QB
open Go.RowKit
structure By (B : Nat) (w : World) where
  world : World
  below : Below B w world
instance {B : Nat} {w : World} : Inhabited (By B w) := ⟨⟨w, Below.refl _ _⟩⟩
theorem region_below {P : Program} {id : Nat} {Q : Exit → Act → World → Prop} {a : Act} {w : World} {l : List Oper} (B : Nat) (hm : P.follows .mixedOrders = true) (hB : Region.lexB .any l.toArray = true)
    (h : wpQuiet P l.toArray (fun w' => ∃ p : By B w, w' = p.world) (fun a' => ∀ w', (∃ p : By B w, w' = p.world) → Q .normal a' w') l a) : (Code.region id l.toArray true).wp P Q a w :=
  wp_region_quiet (C := fun w' => ∃ p : By B w, w' = p.world) hm hB ⟨⟨w.drew, (Below.refl _ _).drew⟩, rfl⟩ (by simpa using h)
/-- A callee's contract, met in a world of the class. -/
theorem call_of {P : Program} {f : FuncId} {args : Array Value} {B : Nat} {w : World} {p : By B w} {v : Value} (hB : B ≤ w.heap.size)
    (h : Below B w p.world → Calls P f args p.world fun e w' => e = .returned v ∧ Below p.world.heap.size p.world w') :
    Calls P f args p.world fun e w'' => e = .returned v ∧ ∃ q : By B w, w'' = q.world :=
  (h p.below).mono fun _ w'' ⟨he, hb⟩ => ⟨he, ⟨w'', p.below.trans (hb.mono (Nat.le_trans hB p.below.size))⟩, rfl⟩
/-- A still head, and a chain behind it. -/
theorem region_tail {P : Program} {w : World} {id : Nat} {Q : Exit → Act → World → Prop} {a : Act} {l : List Oper} (n : Nat) (hm : P.follows .mixedOrders = true) (hB : Region.lexTailB .any l.toArray n = true)
    (h : wpStill P l.toArray w.drew (fun a' => wpList P l.toArray Q (l.drop n) a' w.drew) (l.take n) a) : (Code.region id l.toArray true).wp P Q a w :=
  wp_region_still_tail n hm hB h
end QB
namespace Blk
open Go Go.RowKit Go.ChangeShapes Tab
abbrev Bl : Type := Nat × Array Value × TypeId
structure Bks (w : World) (L : List Bl) (u : World) : Prop where
  bel : Below w.heap.size w u
  low : ∀ x ∈ L, w.heap.size ≤ x.1
  blk : ∀ x ∈ L, u.heap[x.1]? = some (.cells x.2.1 x.2.2 (0, 0))
  apart : (L.map (·.1)).Nodup
section
variable {w u v : World} {L : List Bl}
theorem lt_of {g : Nat} {o : Obj} (hg : u.heap[g]? = some o) : g < u.heap.size := (Array.getElem?_eq_some_iff.1 hg).1
theorem Bks.nil (w : World) : Bks w [] w := ⟨Below.refl _ _, by simp, by simp, by simp⟩
theorem Bks.step (h : Bks w L u) (hb : Below u.heap.size u v) : Bks w L v :=
  ⟨h.bel.trans (hb.mono h.bel.size), h.low, fun x hx => (hb.block _ (lt_of (h.blk x hx))).trans (h.blk x hx), h.apart⟩
theorem Bks.drew (h : Bks w L u) : Bks w L u.drew := ⟨h.bel.drew, h.low, h.blk, h.apart⟩
theorem Bks.lt (h : Bks w L u) {x : Bl} (hx : x ∈ L) : x.1 < u.heap.size := lt_of (h.blk x hx)
theorem Bks.alloc (h : Bks w L u) (cs : Array Value) (t : TypeId) : Bks w ((u.heap.size, cs, t) :: L) (u.alloc (.cells cs t)) := by
  refine ⟨h.bel.alloc h.bel.size _, ?_, ?_, ?_⟩
  · intro x hx
    rcases List.mem_cons.1 hx with rfl | hx
    · exact h.bel.size
    · exact h.low x hx
  · intro x hx
    rcases List.mem_cons.1 hx with rfl | hx
    · exact heap_alloc_new u _
    · rw [Below.heap_alloc _ _ _ (h.lt hx)]; exact h.blk x hx
  · rw [List.map_cons, List.nodup_cons]
    refine ⟨fun hm => ?_, h.apart⟩
    obtain ⟨x, hx, e⟩ := List.mem_map.1 hm
    have := h.lt hx
    simp only at e
    omega
theorem Bks.at (h : Bks w L u) (i : Nat) {g : Nat} {cs : Array Value} {t : TypeId} (hi : L[i]? = some (g, cs, t)) : u.heap[g]? = some (.cells cs t (0, 0)) := h.blk (g, cs, t) (List.mem_of_getElem? hi)
theorem Bks.cell (h : Bks w L u) (i j : Nat) {g : Nat} {cs : Array Value} {t : TypeId} {v : Value} (hi : L[i]? = some (g, cs, t)) (hv : cs[j]? = some v) : u.cell? ⟨g, j, none⟩ = some v := by rw [cell_of_row _ _ _ _ _ _ (h.at i hi), hv]
theorem Bks.frozen (h : Bks w L u) (i j : Nat) {g : Nat} {cs : Array Value} {t : TypeId} (hi : L[i]? = some (g, cs, t)) : u.frozen? ⟨g, j, none⟩ = false := frozen_of_row _ _ _ _ _ (h.at i hi)
theorem Bks.lies (h : Bks w L u) (i : Nat) {g : Nat} {cs : Array Value} {t : TypeId} (hi : L[i]? = some (g, cs, t)) : Lies u ⟨g, 0, none⟩ cs.toList := fun j v hv => by
  rw [Addr.add_mid, Nat.zero_add, cell_of_row _ _ _ _ _ _ (h.at i hi), ← hv, Array.getElem?_toList]
theorem Bks.ge (h : Bks w L u) (i : Nat) {g : Nat} {cs : Array Value} {t : TypeId} (hi : L[i]? = some (g, cs, t)) : w.heap.size ≤ g := h.low (g, cs, t) (List.mem_of_getElem? hi)
theorem nd_ne : ∀ {L : List Nat} {i j : Nat} {a b : Nat}, L.Nodup → L[i]? = some a → L[j]? = some b → i ≠ j → a ≠ b
  | [], _, _, _, _, _, h, _, _ => by simp at h
  | c :: L, 0, 0, _, _, _, _, _, h => absurd rfl h
  | c :: L, 0, j + 1, a, b, hn, hi, hj, _ => by
    simp at hi hj
    subst hi
    intro e
    subst e
    exact (List.nodup_cons.1 hn).1 (List.mem_of_getElem? hj)
  | c :: L, i + 1, 0, a, b, hn, hi, hj, _ => by
    simp at hi hj
    subst hj
    intro e
    subst e
    exact (List.nodup_cons.1 hn).1 (List.mem_of_getElem? hi)
  | c :: L, i + 1, j + 1, a, b, hn, hi, hj, h => nd_ne (List.nodup_cons.1 hn).2 (by simpa using hi) (by simpa using hj) (fun e => h (by rw [e]))
/-- A whole block is written anew. -/
theorem Bks.put (h : Bks w L u) (i : Nat) {g : Nat} {cs : Array Value} {t : TypeId} (hi : L[i]? = some (g, cs, t)) (cs' : Array Value) : Bks w (L.set i (g, cs', t)) (u.setRow g cs') := by
  have hlt : i < L.length := (List.getElem?_eq_some_iff.1 hi).1
  have hmap : (L.set i (g, cs', t)).map (·.1) = L.map (·.1) := by
    rw [List.map_set]
    apply List.ext_getElem?
    intro k
    rw [List.getElem?_set]
    split
    · rename_i e; subst e; rw [List.length_map, if_pos hlt, List.getElem?_map, hi]; rfl
    · rfl
  refine ⟨below_setRow h.bel (h.ge i hi) cs', ?_, ?_, by rw [hmap]; exact h.apart⟩
  · intro x hx
    rcases List.mem_or_eq_of_mem_set hx with hx | rfl
    · exact h.low x hx
    · exact h.ge i hi
  · intro x hx
    obtain ⟨k, hk⟩ := List.mem_iff_getElem?.1 hx
    rw [List.getElem?_set] at hk
    split at hk
    · rename_i e; subst e
      (try rw [if_pos hlt] at hk)
      obtain rfl := Option.some.inj hk
      exact setRow_heap _ _ _ _ _ _ (h.at i hi)
    · rename_i e
      have hne : x.1 ≠ g := nd_ne h.apart (i := k) (j := i) (by rw [List.getElem?_map, hk]; rfl) (by rw [List.getElem?_map, hi]; rfl) (fun e' => e e'.symm)
      rw [setRow_other _ _ _ _ hne]
      exact h.blk x (List.mem_of_getElem? hk)
/-- One cell of a block is written. -/
theorem Bks.set (h : Bks w L u) (i j : Nat) {g : Nat} {cs : Array Value} {t : TypeId} (hi : L[i]? = some (g, cs, t)) (v : Value) : Bks w (L.set i (g, cs.setIfInBounds j v, t)) (u.setCell ⟨g, j, none⟩ v) := by
  rw [setCell_eq_setRow u g j cs t (0, 0) v (h.at i hi)]
  exact h.put i hi _
/-- In a later world of the class 'below'. -/
theorem Bks.by (h : Bks w L u) (p : QB.By u.heap.size u) : Bks w L p.world := h.step p.below
theorem Bks.swap {a b : Bl} (h : Bks w (a :: b :: L) u) : Bks w (b :: a :: L) u :=
  ⟨h.bel, fun x hx => h.low x (by simp only [List.mem_cons] at hx ⊢; exact hx.elim (fun e => .inr (.inl e)) (fun e => e.elim .inl (fun e => .inr (.inr e)))), fun x hx => h.blk x (by simp only [List.mem_cons] at hx ⊢; exact hx.elim (fun e => .inr (.inl e)) (fun e => e.elim .inl (fun e => .inr (.inr e)))), by
    have := h.apart
    simp only [List.map_cons, List.nodup_cons, List.mem_cons, not_or] at this ⊢
    exact ⟨⟨fun e => this.1.1 e.symm, this.2.1⟩, this.1.2, this.2.2⟩⟩
/-- A block that is not asked for any more. -/
theorem Bks.drop {a : Bl} (h : Bks w (a :: L) u) : Bks w L u := ⟨h.bel, fun x hx => h.low x (List.mem_cons_of_mem _ hx), fun x hx => h.blk x (List.mem_cons_of_mem _ hx), (List.nodup_cons.1 h.apart).2⟩
end
end Blk
namespace Cnt
open Go.ChangeShapes Go.WideShapes Go.ChangeAt Go.RowKit
theorem ret_int {k : IntKind} {a b : Int} (h : a = b) : Ending.returned (.int k a) = .returned (.int k b) := by rw [h]
/-- n, cut to a to b -/
def ct (n a b : Int) : Int := if n < a then a else if b < n then b else n
def more (n : Int) : Int := ct n 0 9999 + 1
theorem ct_lo {n a b : Int} (h : a ≤ b) : a ≤ ct n a b := by unfold ct; split <;> (try split) <;> omega
theorem ct_hi {n a b : Int} (h : a ≤ b) : ct n a b ≤ b := by unfold ct; split <;> (try split) <;> omega
theorem rcut_any (n a b : Int) (w : World) : Calls Tryd.prog 43 #[.int .i64 n, .int .i64 a, .int .i64 b] w fun e w' => e = .returned (.int .i64 (ct n a b)) ∧ w = w' := by
  by_cases h1 : n < a
  · have HE : Hid (ct n a b = a) := Lib.hid (by unfold ct; rw [if_pos h1])
    go_enter Tryd.func43, Tryd.ntmps43
    go_wp2
    go_ret
    exact ⟨ret_int HE.out.symm, rfl⟩
  by_cases h2 : b < n
  · have HE : Hid (ct n a b = b) := Lib.hid (by unfold ct; rw [if_neg h1, if_pos h2])
    go_enter Tryd.func43, Tryd.ntmps43
    go_wp2
    go_ret
    exact ⟨ret_int HE.out.symm, rfl⟩
  · have HE : Hid (ct n a b = n) := Lib.hid (by unfold ct; rw [if_neg h1, if_neg h2])
    go_enter Tryd.func43, Tryd.ntmps43
    go_wp2
    go_ret
    exact ⟨ret_int HE.out.symm, rfl⟩
theorem rmore1_any (n : Int) (w : World) : Calls Tryd.prog 29 #[.int .i64 n] w fun e w' => e = .returned (.int .i64 (more n)) ∧ w = w' := by
  have h0 := ct_lo (n := n) (a := 0) (b := 9999) (by decide)
  have h1 := ct_hi (n := n) (a := 0) (b := 9999) (by decide)
  have e1 : IntKind.i64.wrap (ct n 0 9999 + 1) = ct n 0 9999 + 1 := by rw [IntKind.wrap_i64]; omega
  go_enter Tryd.func29, Tryd.ntmps29
  go_wp2_with (go_at_call 43; refine (rcut_any _ _ _ _).mono ?_; rintro e w' ⟨rfl, rfl⟩)
  go_ret
  exact ⟨rfl, rfl⟩
end Cnt
namespace Flat
open Go Go.ChangeShapes Go.WideShapes
section
variable {α β : Type}
def All2 (R : α → β → Prop) : List α → List β → Prop
  | [], [] => True
  | a :: l, b :: m => R a b ∧ All2 R l m
  | _, _ => False
variable {R : α → β → Prop}
theorem All2.length : ∀ {a : List α} {b : List β}, All2 R a b → a.length = b.length
  | [], [], _ => rfl
  | _ :: _, _ :: _, ⟨_, h⟩ => by simp [All2.length h]
  | [], _ :: _, h => h.elim
  | _ :: _, [], h => h.elim
theorem All2.append : ∀ {a : List α} {b : List β} {c : List α} {d : List β}, All2 R a b → All2 R c d → All2 R (a ++ c) (b ++ d)
  | [], [], _, _, _, h => h
  | _ :: _, _ :: _, _, _, ⟨h, k⟩, h2 => ⟨h, All2.append k h2⟩
  | [], _ :: _, _, _, h, _ => h.elim
  | _ :: _, [], _, _, h, _ => h.elim
theorem All2.split : ∀ {a c : List α} {b : List β}, All2 R (a ++ c) b → All2 R a (b.take a.length) ∧ All2 R c (b.drop a.length)
  | [], _, _, h => ⟨trivial, h⟩
  | _ :: _, _, _ :: _, ⟨h, k⟩ => ⟨⟨h, (All2.split k).1⟩, (All2.split k).2⟩
  | _ :: _, _, [], h => h.elim
theorem All2.at : ∀ {a : List α} {b : List β}, All2 R a b → ∀ {i : Nat} {x : α} {y : β}, a[i]? = some x → b[i]? = some y → R x y
  | _ :: _, _ :: _, ⟨h, _⟩, 0, _, _, h1, h2 => by simp at h1 h2; subst h1 h2; exact h
  | _ :: _, _ :: _, ⟨_, k⟩, i + 1, _, _, h1, h2 => All2.at k (i := i) (by simpa using h1) (by simpa using h2)
  | [], _, _, _, _, _, h1, _ => by simp at h1
  | _ :: _, [], h, _, _, _, _, _ => h.elim
theorem All2.mono {S : α → β → Prop} (hm : ∀ x y, R x y → S x y) : ∀ {a : List α} {b : List β}, All2 R a b → All2 S a b
  | [], [], _ => trivial
  | _ :: _, _ :: _, ⟨h, k⟩ => ⟨hm _ _ h, All2.mono hm k⟩
  | [], _ :: _, h => h.elim
  | _ :: _, [], h => h.elim
end
def rowT (P : Program) (t : TypeId) : Bool := match P.underlying t with | some (.struct _) | some (.array _ _) => true | _ => false
def flatF (P : Program) (g : TypeId → Option (List TypeId)) : Nat → List Field → Option (List TypeId)
  | _, [] => some []
  | o, f :: fs => if f.name ≠ "_" ∧ f.offset = o then
      match g f.type with
      | some r => if r.length = P.cellsOf f.type then (flatF P g (o + r.length) fs).map (r ++ ·) else none
      | none => none
    else none
/-- The one-cell types that lie in a type, in order; none where its parts do not lie side by side. -/
def flat (P : Program) : Nat → TypeId → Option (List TypeId)
  | 0, _ => none
  | d + 1, t => match P.underlying t with
    | some (.struct fs) => if P.stoodInHeld t = true then none else match flatF P (flat P d) 0 fs.toList with
      | some l => if l.length = P.cellsOf t then some l else none
      | none => none
    | some (.array n e) => match flat P d e with
      | some r => if r.length = P.cellsOf e ∧ n * P.cellsOf e = P.cellsOf t then some (List.replicate n r).flatten else none
      | none => none
    | some _ => if P.cellsOf t = 1 then some [t] else none
    | none => none
theorem flatF_cons {P : Program} {g : TypeId → Option (List TypeId)} {o : Nat} {f : Field} {fs : List Field} {l : List TypeId} (h : flatF P g o (f :: fs) = some l) :
    f.name ≠ "_" ∧ f.offset = o ∧ ∃ r l', g f.type = some r ∧ r.length = P.cellsOf f.type ∧ flatF P g (o + r.length) fs = some l' ∧ l = r ++ l' := by
  unfold flatF at h
  split at h
  · rename_i h1
    split at h
    · rename_i r hr
      split at h
      · rename_i hl
        simp only [Option.map_eq_some_iff] at h
        obtain ⟨l', h2, rfl⟩ := h
        exact ⟨h1.1, h1.2, r, l', hr, hl, h2, rfl⟩
      · cases h
    · cases h
  · cases h
theorem take_two {α : Type} (l : List α) (o a b : Nat) : (l.drop o).take (a + b) = (l.drop o).take a ++ (l.drop (o + a)).take b := by
  rw [List.take_add, List.drop_drop]
section
variable {P : Program} {R : TypeId → Value → Prop} {G : TypeId → List Value → Prop} {g : TypeId → Option (List TypeId)}
theorem fields_flat (hg : ∀ t ts cs, g t = some ts → G t cs → All2 R ts cs) (cs : List Value) : ∀ (fs : List Field) (o : Nat) (l : List TypeId), flatF P g o fs = some l →
    (∀ f ∈ fs, G f.type ((cs.drop f.offset).take (P.cellsOf f.type))) → All2 R l ((cs.drop o).take l.length)
  | [], _, l, h, _ => by
    simp only [flatF, Option.some.injEq] at h
    subst h; simp [All2]
  | f :: fs, o, l, h, hall => by
    obtain ⟨_, ho, r, l', h1, h2, h3, rfl⟩ := flatF_cons h
    have h4 := hg _ _ _ h1 (hall f (by simp))
    rw [ho, ← h2] at h4
    rw [List.length_append, take_two]
    exact h4.append (fields_flat hg cs fs _ _ h3 fun f hf => hall f (by simp [hf]))
theorem items_flat {c : Nat} {e : TypeId} {r : List TypeId} (hg : ∀ cs, G e cs → All2 R r cs) (cs : List Value) : ∀ (n k : Nat), (∀ i, i < n → G e ((cs.drop ((k + i) * c)).take c)) →
    All2 R (List.replicate n r).flatten ((cs.drop (k * c)).take (n * c))
  | 0, _, _ => by simp [All2]
  | n + 1, k, h => by
    rw [List.replicate_succ, List.flatten_cons, Nat.add_mul, Nat.one_mul, Nat.add_comm (n * c) c, take_two]
    refine (hg _ (by simpa using h 0 (by omega))).append ?_
    have := items_flat hg cs n (k + 1) (fun i hi => by have := h (i + 1) (by omega); rwa [show k + (i + 1) = k + 1 + i by omega] at this)
    rwa [Nat.add_mul, Nat.one_mul] at this
end
section
variable {H : Type} {enc : TypeId × Value → H} {P : Program} {w : World} {base : Nat} {spare : Nat → Bool} {held : Bool}
theorem trod_one {t : TypeId} {n : Nat} {cs : List Value} {x : DataW H × List MemPlace} {d : TypeDesc} (hu : P.underlying t = some d) (hd : rowT P t = false) (h : DataW.trod enc P w base spare held n t cs = some x) : ∃ v, cs = [v] := by
  cases n with
  | zero => simp [DataW.trod] at h
  | succ n =>
    unfold DataW.trod at h
    unfold rowT at hd
    rw [hu] at h hd
    split at h <;> first | exact ⟨_, rfl⟩ | (simp_all; done)
/-- A value that can be read: each of its cells can be read as its own type. -/
theorem trod_flat : ∀ (d : Nat) (t : TypeId) (ts : List TypeId), flat P d t = some ts → ∀ (n : Nat) (cs : List Value) (x : DataW H × List MemPlace), DataW.trod enc P w base spare held n t cs = some x →
    All2 (fun t v => ∃ n y, DataW.trod enc P w base spare held n t [v] = some y) ts cs
  | 0, _, _, h, _, _, _, _ => by simp [flat] at h
  | d + 1, t, ts, h, n, cs, x, hx => by
    unfold flat at h
    split at h
    · rename_i fs hu
      split at h
      · cases h
      · split at h
        · rename_i l hl
          split at h
          · rename_i hlen
            simp only [Option.some.injEq] at h; subst h
            obtain ⟨xs, m, _, _, hcl, hxl, hf⟩ := DataW.trod_struct hu hx
            have := fields_flat (P := P) (G := fun t cs => ∃ n y, DataW.trod enc P w base spare held n t cs = some y) (g := flat P d) (fun t ts cs h ⟨n, y, hy⟩ => trod_flat d t ts h n cs y hy) cs fs.toList 0 l hl (fun f hf' => by
              obtain ⟨i, hi⟩ := List.getElem?_of_mem hf'
              have h1 := hf i f (by simpa using hi)
              have h2 : i < xs.length := by
                have := (List.getElem?_eq_some_iff.1 hi).1
                simp at this; omega
              rw [List.getElem?_eq_getElem h2] at h1
              exact ⟨m, _, h1⟩)
            rw [List.drop_zero, hlen, ← hcl, List.take_length] at this
            exact this
          · cases h
        · cases h
    · rename_i k e hu
      split at h
      · rename_i r hr
        split at h
        · rename_i hlen
          simp only [Option.some.injEq] at h; subst h
          obtain ⟨xs, m, _, _, hcl, hxl, hf⟩ := DataW.trod_array hu hx
          have := items_flat (c := P.cellsOf e) (e := e) (r := r) (G := fun t cs => ∃ n y, DataW.trod enc P w base spare held n t cs = some y) (fun cs ⟨n, y, hy⟩ => trod_flat d e r hr n cs y hy) cs k 0 (fun i hi => by
            have h1 := hf i hi
            rw [List.getElem?_eq_getElem (by omega)] at h1
            exact ⟨m, _, by simpa using h1⟩)
          rw [Nat.zero_mul, List.drop_zero, hlen.2, ← hcl, List.take_length] at this
          exact this
        · cases h
      · cases h
    · rename_i dd hns hna hu
      split at h
      · simp only [Option.some.injEq] at h; subst h
        obtain ⟨v, rfl⟩ := trod_one hu (by unfold rowT; rw [hu]; cases dd <;> simp_all) hx
        exact ⟨⟨n, x, hx⟩, trivial⟩
      · cases h
    · cases h
end
/-! ### comparing -/
section
variable {P : Program}
def vOf (P : Program) (t : TypeId) (cs : List Value) : Value := if rowT P t then .agg cs.toArray else cs.headD undef
/-- Two cells of a type of one cell: '==' is equality. -/
def LeafEq (P : Program) (t : TypeId) (p : Value × Value) : Prop := ∃ b : Bool, (∀ D w, (Op.equalIn (D + 1) t p.1 p.2).run P w = .ok b w) ∧ (b = true ↔ p.1 = p.2)
theorem leaf_int {t : TypeId} {k : IntKind} (h : P.underlying t = some (.int k)) (a b : Int) : LeafEq P t (.int k a, .int k b) := ⟨a == b, fun D w => run_equalIn_int w D t k k a b h, by simp⟩
theorem run_part (w : World) {t : TypeId} {d : TypeDesc} (hu : P.underlying t = some d) (hc : rowT P t = false → P.cellsOf t = 1) (cs : List Value) (off : Nat) (hl : off + P.cellsOf t ≤ cs.length) :
    (part t cs.toArray off).run P w = .ok (vOf P t ((cs.drop off).take (P.cellsOf t))) w := by
  obtain ⟨i, hi⟩ := info_of_underlying hu
  have hagg : (isAgg t).run P w = .ok (rowT P t) w := by
    unfold isAgg rowT
    rw [Sem.run_bind, run_underlying hu w]
    rw [hu]
    cases d <;> simp
  unfold part vOf
  rw [Sem.run_bind, hagg, Result.andThen_ok]
  cases hr : rowT P t with
  | true =>
    simp only [if_true, Sem.run_bind, run_sizeOf w hi, Result.andThen_ok, Sem.run_pure]
    congr 2
    simp [List.extract]
  | false =>
    have h1 := hc hr
    have h2 : off < cs.length := by omega
    simp only [Bool.false_eq_true, if_false, List.getElem?_toArray, List.getElem?_eq_getElem h2, Sem.run_pure, h1]
    have h3 : (cs.drop off).take 1 = [cs[off]] := by rw [List.drop_eq_getElem_cons h2]; rfl
    rw [h3]
    simp
theorem cells_one {d : Nat} {t : TypeId} {ts : List TypeId} (h : flat P d t = some ts) : (∃ dd, P.underlying t = some dd) ∧ (rowT P t = false → P.cellsOf t = 1) := by
  cases d with
  | zero => simp [flat] at h
  | succ d =>
    unfold flat at h
    unfold rowT
    split at h
    · rename_i hu; exact ⟨⟨_, hu⟩, by rw [hu]; simp⟩
    · rename_i hu; exact ⟨⟨_, hu⟩, by rw [hu]; simp⟩
    · rename_i hu
      split at h
      · rename_i h1; exact ⟨⟨_, hu⟩, fun _ => h1⟩
      · cases h
    · cases h
def EqG (P : Program) (D : Nat) (g : TypeId → Option (List TypeId)) : Prop := ∀ (t : TypeId) (ts : List TypeId) (zs : List (Value × Value)), g t = some ts → All2 (LeafEq P) ts zs →
  ∃ b : Bool, (∀ w, (Op.equalIn D t (vOf P t (zs.map (·.1))) (vOf P t (zs.map (·.2)))).run P w = .ok b w) ∧ (b = true ↔ zs.map (·.1) = zs.map (·.2))
theorem map_part {γ : Type} (f : Value × Value → γ) (zs : List (Value × Value)) (o n : Nat) : ((zs.map f).drop o).take n = ((zs.drop o).take n).map f := by
  rw [← List.map_drop, ← List.map_take]
theorem fields_eq {D d : Nat} (hg : EqG P D (flat P d)) (zs : List (Value × Value)) : ∀ (fs : List Field) (o : Nat) (l : List TypeId), flatF P (flat P d) o fs = some l → o + l.length ≤ zs.length →
    All2 (LeafEq P) l ((zs.drop o).take l.length) →
    ∃ b : Bool, (∀ w, (Op.eqFields D (zs.map (·.1)).toArray (zs.map (·.2)).toArray fs).run P w = .ok b w) ∧ (b = true ↔ ((zs.drop o).take l.length).map (·.1) = ((zs.drop o).take l.length).map (·.2))
  | [], _, l, h, _, _ => by
    simp only [flatF, Option.some.injEq] at h
    subst h
    exact ⟨true, fun w => by simp [Op.eqFields], by simp⟩
  | f :: fs, o, l, h, hlen, hall => by
    obtain ⟨hn, ho, r, l', h1, h2, h3, rfl⟩ := flatF_cons h
    obtain ⟨⟨dd, hu⟩, hone⟩ := cells_one h1
    rw [List.length_append] at hlen hall ⊢
    rw [take_two] at hall ⊢
    have hs := hall.split
    have hlr : ((zs.drop o).take r.length).length = r.length := by simp; omega
    rw [List.take_left' hlr, List.drop_left' hlr] at hs
    obtain ⟨b, hb, hiff⟩ := hg f.type r _ h1 hs.1
    obtain ⟨b', hb', hiff'⟩ := fields_eq hg zs fs (o + r.length) l' h3 (by omega) hs.2
    have p1 := fun w => run_part (P := P) w hu hone (zs.map (·.1)) f.offset (by simp; omega)
    have p2 := fun w => run_part (P := P) w hu hone (zs.map (·.2)) f.offset (by simp; omega)
    rw [ho, ← h2] at p1 p2
    simp only [map_part] at p1 p2
    refine ⟨b && b', fun w => ?_, ?_⟩
    · simp only [Op.eqFields, hn, ne_eq, not_false_eq_true, if_true, Sem.run_bind, ho, p1, p2, hb, Result.andThen_ok]
      cases b
      · simp
      · simpa using hb' w
    · rw [Bool.and_eq_true, hiff, hiff', List.map_append, List.map_append]
      constructor
      · rintro ⟨e1, e2⟩; rw [e1, e2]
      · intro e; exact List.append_inj e (by simp)
theorem items_eq {D d : Nat} (hg : EqG P D (flat P d)) {e : TypeId} {r : List TypeId} (hr : flat P d e = some r) (hc : r.length = P.cellsOf e) (zs : List (Value × Value)) : ∀ (n k : Nat), (k + n) * P.cellsOf e ≤ zs.length →
    All2 (LeafEq P) (List.replicate n r).flatten ((zs.drop (k * P.cellsOf e)).take (n * P.cellsOf e)) →
    ∃ b : Bool, (∀ w, (Op.eqItems D e (P.cellsOf e) (zs.map (·.1)).toArray (zs.map (·.2)).toArray (List.range' k n)).run P w = .ok b w) ∧
      (b = true ↔ ((zs.drop (k * P.cellsOf e)).take (n * P.cellsOf e)).map (·.1) = ((zs.drop (k * P.cellsOf e)).take (n * P.cellsOf e)).map (·.2))
  | 0, k, _, _ => ⟨true, fun w => by simp [Op.eqItems], by simp⟩
  | n + 1, k, hlen, hall => by
    obtain ⟨⟨dd, hu⟩, hone⟩ := cells_one hr
    have hlen' : k * P.cellsOf e + P.cellsOf e + n * P.cellsOf e ≤ zs.length := by
      have : (k + (n + 1)) * P.cellsOf e = k * P.cellsOf e + P.cellsOf e + n * P.cellsOf e := by
        rw [Nat.add_mul, Nat.add_mul, Nat.one_mul]; omega
      omega
    rw [List.replicate_succ, List.flatten_cons] at hall
    rw [Nat.add_mul, Nat.one_mul, Nat.add_comm (n * _), take_two] at hall ⊢
    have hs := hall.split
    have hlr : ((zs.drop (k * P.cellsOf e)).take (P.cellsOf e)).length = r.length := by rw [hc]; simp; omega
    rw [List.take_left' hlr, List.drop_left' hlr] at hs
    obtain ⟨b, hb, hiff⟩ := hg e r _ hr hs.1
    have hk : k * P.cellsOf e + P.cellsOf e = (k + 1) * P.cellsOf e := by rw [Nat.add_mul, Nat.one_mul]
    rw [hk] at hs ⊢
    obtain ⟨b', hb', hiff'⟩ := items_eq hg hr hc zs n (k + 1) (by rw [Nat.add_mul, Nat.add_mul] at *; omega) hs.2
    have p1 := fun w => run_part (P := P) w hu hone (zs.map (·.1)) (k * P.cellsOf e) (by simp; omega)
    have p2 := fun w => run_part (P := P) w hu hone (zs.map (·.2)) (k * P.cellsOf e) (by simp; omega)
    simp only [map_part] at p1 p2
    refine ⟨b && b', fun w => ?_, ?_⟩
    · simp only [List.range'_succ, Op.eqItems, Sem.run_bind, p1, p2, hb, Result.andThen_ok]
      cases b
      · simp
      · simpa using hb' w
    · rw [Bool.and_eq_true, hiff, hiff', List.map_append, List.map_append]
      constructor
      · rintro ⟨e1, e2⟩; rw [e1, e2]
      · intro e; exact List.append_inj e (by simp)
theorem eq_flat : ∀ (d D : Nat), d ≤ D → EqG P D (flat P d)
  | 0, _, _ => fun t ts zs h _ => by simp [flat] at h
  | d + 1, 0, h => absurd h (by omega)
  | d + 1, D + 1, hD => fun t ts zs h hall => by
    have IH := eq_flat d D (by omega)
    unfold flat at h
    split at h
    · rename_i fs hu
      split at h
      · cases h
      · rename_i hst
        split at h
        · rename_i l hl
          split at h
          · rename_i hlen
            simp only [Option.some.injEq] at h; subst h
            have hz := hall.length
            obtain ⟨b, hb, hiff⟩ := fields_eq IH zs fs.toList 0 l hl (by omega) (by rw [List.drop_zero, hz, List.take_length]; exact hall)
            rw [List.drop_zero, hz, List.take_length] at hiff
            have hfs : P.fieldsOf t = fs := by simp [Program.fieldsOf, hu]
            refine ⟨b, fun w => ?_, hiff⟩
            have hr : rowT P t = true := by unfold rowT; rw [hu]
            unfold vOf
            rw [if_pos hr, if_pos hr, run_equalIn_struct w D t _ _ (by rw [hfs]; exact hu) (by simpa using hst), hfs]
            exact hb w
          · cases h
        · cases h
    · rename_i n e hu
      split at h
      · rename_i r hr
        split at h
        · rename_i hlen
          simp only [Option.some.injEq] at h; subst h
          have hz := hall.length
          have hz2 : n * P.cellsOf e = zs.length := by rw [← hz]; simp [hlen.1]
          obtain ⟨b, hb, hiff⟩ := items_eq IH hr hlen.1 zs n 0 (by rw [Nat.zero_add]; omega) (by rw [Nat.zero_mul, List.drop_zero, hz2, List.take_length]; exact hall)
          rw [Nat.zero_mul, List.drop_zero, hz2, List.take_length] at hiff
          obtain ⟨⟨dd, hue⟩, _⟩ := cells_one hr
          obtain ⟨i, hi⟩ := info_of_underlying hue
          refine ⟨b, fun w => ?_, hiff⟩
          have hrow : rowT P t = true := by unfold rowT; rw [hu]
          unfold vOf
          rw [if_pos hrow, if_pos hrow, run_equalIn_array w D _ _ hu hi, List.range_eq_range']
          exact hb w
        · cases h
      · cases h
    · rename_i dd hns hna hu
      split at h
      · simp only [Option.some.injEq] at h; subst h
        have hr : rowT P t = false := by unfold rowT; rw [hu]; cases dd <;> simp_all
        match zs, hall with
        | [p], ⟨⟨b, hb, hiff⟩, _⟩ =>
          refine ⟨b, fun w => ?_, by simpa using hiff⟩
          unfold vOf
          rw [hr]
          simpa using hb D w
      · cases h
    · cases h
/-- What a walk asks. -/
theorem eql_flat {d : Nat} {t : TypeId} {ts : List TypeId} (h : flat P d t = some ts) (hd : d ≤ 10000) (hr : rowT P t = true) (zs : List (Value × Value)) (hall : All2 (LeafEq P) ts zs) :
    ∃ b : Bool, (∀ w, (Op.equalIn 10000 t (.agg (zs.map (·.1)).toArray) (.agg (zs.map (·.2)).toArray)).run P w = .ok b w) ∧ (b = true ↔ zs.map (·.1) = zs.map (·.2)) := by
  obtain ⟨b, hb, hiff⟩ := eq_flat d 10000 hd t ts zs h hall
  refine ⟨b, fun w => ?_, hiff⟩
  have := hb w
  unfold vOf at this
  rwa [if_pos hr, if_pos hr] at this
end
end Flat
namespace TabArg
open Go Go.ChangeShapes Go.WideShapes Go.Deep Flat Tab
theorem All2.rep {α β : Type} {R : α → β → Prop} {r : List α} : ∀ (n : Nat) {cs : List β}, All2 R (List.replicate n r).flatten cs → ∃ l : List (List β), l.length = n ∧ cs = l.flatten ∧ ∀ c ∈ l, All2 R r c
  | 0, cs, h => ⟨[], rfl, by cases cs with | nil => rfl | cons _ _ => exact h.elim, by simp⟩
  | n + 1, cs, h => by
    rw [List.replicate_succ, List.flatten_cons] at h
    obtain ⟨h1, h2⟩ := h.split
    obtain ⟨l, hl, he, hr⟩ := All2.rep n h2
    refine ⟨cs.take r.length :: l, by simp [hl], ?_, ?_⟩
    · rw [List.flatten_cons, ← he, List.take_append_drop]
    · intro c hc
      rcases List.mem_cons.1 hc with rfl | hc
      · exact h1
      · exact hr c hc
theorem map_choose {α β : Type} {f : α → List β} {p : α → Prop} : ∀ {l : List (List β)}, (∀ c ∈ l, ∃ v, c = f v ∧ p v) → ∃ m : List α, m.length = l.length ∧ l.flatten = m.flatMap f ∧ ∀ v ∈ m, p v
  | [], _ => ⟨[], rfl, rfl, by simp⟩
  | c :: l, h => by
    obtain ⟨v, hv, hp⟩ := h c (by simp)
    obtain ⟨m, h1, h2, h3⟩ := map_choose (l := l) (fun c hc => h c (by simp [hc]))
    exact ⟨v :: m, by simp [h1], by rw [List.flatten_cons, h2, hv, List.flatMap_cons], by
      intro u hu
      rcases List.mem_cons.1 hu with rfl | hu
      · exact hp
      · exact h3 u hu⟩
section
variable {H : Type} {enc : TypeId × Value → H} {P : Program} {w : World} {base : Nat} {spare : Nat → Bool} {held : Bool}
abbrev Tr (enc : TypeId × Value → H) (P : Program) (w : World) (base : Nat) (spare : Nat → Bool) (held : Bool) (t : TypeId) (v : Value) : Prop := ∃ n y, DataW.trod enc P w base spare held n t [v] = some y
theorem tr_int {t : TypeId} {v : Value} (hu : P.underlying t = some (.int .i64)) (h : Tr enc P w base spare held t v) : ∃ z, v = I z := by
  obtain ⟨n, y, h⟩ := h
  obtain ⟨z, hz, _⟩ := DataW.trod_int hu h
  exact ⟨z, by simpa using hz⟩
theorem tr_bool {t : TypeId} {v : Value} (hu : P.underlying t = some .bool) (h : Tr enc P w base spare held t v) : ∃ b, v = .bool b := by
  obtain ⟨n, y, h⟩ := h
  obtain ⟨z, hz, _⟩ := DataW.trod_bool hu h
  exact ⟨z, by simpa using hz⟩
theorem tr_flt {t : TypeId} {v : Value} (hu : P.underlying t = some (.float .f64)) (h : Tr enc P w base spare held t v) : ∃ b, v = F b := by
  obtain ⟨n, y, h⟩ := h
  cases n with
  | zero => simp [DataW.trod] at h
  | succ n =>
    unfold DataW.trod at h
    rw [hu] at h
    split at h <;> simp_all
theorem tr_ints {t : TypeId} (hu : P.underlying t = some (.int .i64)) : ∀ (n : Nat) {cs : List Value}, All2 (Tr enc P w base spare held) (List.replicate n t) cs → ∃ l : List Int, l.length = n ∧ cs = l.map I
  | 0, cs, h => ⟨[], rfl, by cases cs with | nil => rfl | cons _ _ => exact h.elim⟩
  | n + 1, [], h => h.elim
  | n + 1, c :: cs, h => by
    obtain ⟨z, rfl⟩ := tr_int hu h.1
    obtain ⟨l, hl, rfl⟩ := tr_ints hu n h.2
    exact ⟨z :: l, by simp [hl], rfl⟩
/-- A slice whose elements each read as one of ours. -/
theorem tr_row {α : Type} [Inhabited α] {t e : TypeId} {k : Nat} {f : α → List Value} {p : α → Prop} {v : Value} (ht : P.underlying t = some (.slice e)) (hC : P.cellsOf e = k)
    (hel : ∀ n cs x, DataW.trod enc P w base spare held n e cs = some x → ∃ v, cs = f v ∧ p v) (h : Tr enc P w base spare held t v) :
    ∃ (s : Sl) (l : List α), v = s.val l.length ∧ RowOf k f w s l ∧ ∀ u ∈ l, p u := by
  obtain ⟨n, y, h⟩ := h
  rcases Deep.open_slice ht h with ⟨h0, _⟩ | ⟨a, len, cap, m, n', D, Pl, hcs, _, hl, hm, hmm, _, hx⟩
  · simp only [List.cons.injEq, and_true] at h0
    exact ⟨⟨none, 0⟩, [], h0, RowOf.nil w, by simp⟩
  · simp only [List.cons.injEq, and_true] at hcs
    have hlm : len ≤ m := by rw [hmm]; split <;> omega
    have each : ∀ i, ∃ u : α, i < len → Lies w (a.add (i * k)) (f u) ∧ p u := by
      intro i
      by_cases hi : i < len
      · obtain ⟨cs', h1, h2⟩ := hx i (by omega)
        rw [hC] at h1
        obtain ⟨_, hlen, hcell⟩ := World.cells?_some h1
        obtain ⟨u, rfl, hp⟩ := hel _ _ _ h2
        refine ⟨u, fun _ => ⟨fun j v hv => ?_, hp⟩⟩
        have hj : j < k := by rw [← hlen]; exact (List.getElem?_eq_some_iff.1 hv).1
        rw [hcell j hj, hv]
      · exact ⟨default, fun h => absurd h hi⟩
    refine ⟨⟨some a, cap⟩, (List.range len).map fun i => Classical.choose (each i), ?_, .inr ⟨a, rfl, by simpa using hl, hm, ?_⟩, ?_⟩
    · rw [hcs]; simp
    · intro i u hu
      rw [List.getElem?_map] at hu
      by_cases hi : i < len
      · rw [List.getElem?_range hi] at hu
        obtain rfl := Option.some.inj hu
        exact (Classical.choose_spec (each i) hi).1
      · simp [List.getElem?_eq_none (l := List.range len) (i := i) (by simpa using hi)] at hu
    · intro u hu
      obtain ⟨i, hi, rfl⟩ := List.mem_map.1 hu
      exact (Classical.choose_spec (each i) (List.mem_range.1 hi)).2
instance : Inhabited Gr := ⟨⟨[], [], ⟨none, 0⟩, ⟨none, 0⟩⟩⟩
abbrev B : TypeId := 4
abbrev N : TypeId := 3
abbrev X : TypeId := 73
abbrev phT : List TypeId := [B, N, N, N, N, N, N, N, N, N, N, B, B]
theorem flD : flat Tryd.prog 4 75 = some [N, X, X, X, X, N, N] := by kernel_rfl
theorem flR : flat Tryd.prog 4 78 = some (List.replicate 11 N) := by kernel_rfl
theorem flB : flat Tryd.prog 4 53 = some (List.replicate 2 N) := by kernel_rfl
theorem flG : flat Tryd.prog 4 86 = some (List.replicate 2 47) := by kernel_rfl
abbrev tabT : List TypeId := (List.replicate 8 phT).flatten ++ (25 :: (List.replicate 8 N ++ (27 :: 28 :: 29 :: (List.replicate 5 N ++ (List.replicate 8 N ++ List.replicate 2 N)))))
theorem flT : flat Tryd.prog 5 31 = some tabT := by kernel_rfl
theorem ph_el : ∀ {cs : List Value}, All2 (Tr enc Tryd.prog w base spare held) phT cs → ∃ p : Ph, cs = p.cells
  | [_, _, _, _, _, _, _, _, _, _, _, _, _], ⟨h0, h1, h2, h3, h4, h5, h6, h7, h8, h9, h10, h11, h12, _⟩ => by
    obtain ⟨v0, rfl⟩ := tr_bool Tryd.underlying4 h0
    obtain ⟨v1, rfl⟩ := tr_int Tryd.underlying3 h1
    obtain ⟨v2, rfl⟩ := tr_int Tryd.underlying3 h2
    obtain ⟨v3, rfl⟩ := tr_int Tryd.underlying3 h3
    obtain ⟨v4, rfl⟩ := tr_int Tryd.underlying3 h4
    obtain ⟨v5, rfl⟩ := tr_int Tryd.underlying3 h5
    obtain ⟨v6, rfl⟩ := tr_int Tryd.underlying3 h6
    obtain ⟨v7, rfl⟩ := tr_int Tryd.underlying3 h7
    obtain ⟨v8, rfl⟩ := tr_int Tryd.underlying3 h8
    obtain ⟨v9, rfl⟩ := tr_int Tryd.underlying3 h9
    obtain ⟨v10, rfl⟩ := tr_int Tryd.underlying3 h10
    obtain ⟨v11, rfl⟩ := tr_bool Tryd.underlying4 h11
    obtain ⟨v12, rfl⟩ := tr_bool Tryd.underlying4 h12
    exact ⟨⟨v0, v1, v2, v3, v4, v5, v6, v7, v8, v9, v10, v11, v12⟩, rfl⟩
theorem det_el : ∀ {cs : List Value}, All2 (Tr enc Tryd.prog w base spare held) [N, X, X, X, X, N, N] cs → ∃ d : Det, cs = d.cells
  | [_, _, _, _, _, _, _], ⟨h0, h1, h2, h3, h4, h5, h6, _⟩ => by
    obtain ⟨v0, rfl⟩ := tr_int Tryd.underlying3 h0
    obtain ⟨v1, rfl⟩ := tr_flt Tryd.underlying73 h1
    obtain ⟨v2, rfl⟩ := tr_flt Tryd.underlying73 h2
    obtain ⟨v3, rfl⟩ := tr_flt Tryd.underlying73 h3
    obtain ⟨v4, rfl⟩ := tr_flt Tryd.underlying73 h4
    obtain ⟨v5, rfl⟩ := tr_int Tryd.underlying3 h5
    obtain ⟨v6, rfl⟩ := tr_int Tryd.underlying3 h6
    exact ⟨⟨v0, v1, v2, v3, v4, v5, v6⟩, rfl⟩
theorem rl_el {cs : List Value} (h : All2 (Tr enc Tryd.prog w base spare held) (List.replicate 11 N) cs) : ∃ r : Rl, cs = r.cells := by
  obtain ⟨l, hl, rfl⟩ := tr_ints Tryd.underlying3 11 h
  match l, hl with
  | [a, b, c, d, e, f, g, h, i, j, k], _ => exact ⟨⟨a, b, c, d, e, f, g, h, i, j, k⟩, rfl⟩
theorem bs_el {cs : List Value} (h : All2 (Tr enc Tryd.prog w base spare held) (List.replicate 2 N) cs) : ∃ b : Bs, cs = b.cells := by
  obtain ⟨l, hl, rfl⟩ := tr_ints Tryd.underlying3 2 h
  match l, hl with
  | [a, b], _ => exact ⟨⟨a, b⟩, rfl⟩
theorem int_row {v : Value} (h : Tr enc Tryd.prog w base spare held 47 v) : ∃ (s : Sl) (l : List Int), v = s.val l.length ∧ IntRow w s l := by
  obtain ⟨s, l, h1, h2, _⟩ := tr_row (α := Int) (k := 1) (f := fun n => [I n]) (p := fun _ => True) Tryd.underlying47 (by kernel_rfl) (fun n cs x hx => by
    obtain ⟨z, hz, _⟩ := DataW.trod_int Tryd.underlying3 hx
    exact ⟨z, hz, trivial⟩) h
  exact ⟨s, l, h1, h2⟩
theorem gr_el : ∀ {cs : List Value}, All2 (Tr enc Tryd.prog w base spare held) (List.replicate 2 47) cs → ∃ g : Gr, cs = g.cells ∧ g.ok w
  | [_, _], ⟨h0, h1, _⟩ => by
    obtain ⟨s0, r0, rfl, k0⟩ := int_row h0
    obtain ⟨s1, r1, rfl, k1⟩ := int_row h1
    exact ⟨⟨r0, r1, s0, s1⟩, rfl, k0, k1⟩
theorem open_tab {n : Nat} {cs : List Value} {x : DataW H × List MemPlace} (h : DataW.trod enc Tryd.prog w base spare held n 31 cs = some x) : ∃ (hd : Hd) (T : Tab), cs = T.cells hd ∧ IsTab w hd T := by
  have hf := trod_flat 5 _ _ flT n cs x h
  clear h
  obtain ⟨h1, h2⟩ := All2.split hf
  have e0 := List.take_append_drop (List.replicate 8 phT).flatten.length cs
  rw [← e0]
  generalize cs.take (List.replicate 8 phT).flatten.length = ca at h1
  generalize cs.drop (List.replicate 8 phT).flatten.length = cb at h2
  obtain ⟨L, hL, rfl, hall⟩ := All2.rep 8 h1
  obtain ⟨ps, hp1, hp2, _⟩ := map_choose (f := Ph.cells) (p := fun _ => True) (l := L) (fun c hc => (ph_el (hall c hc)).imp fun v hv => ⟨hv, trivial⟩)
  cases cb with
  | nil => exact h2.elim
  | cons vg cb =>
  obtain ⟨hg, h3⟩ := h2
  obtain ⟨h4, h5⟩ := All2.split h3
  have e1 := List.take_append_drop (List.replicate 8 N).length cb
  rw [← e1]
  generalize cb.take (List.replicate 8 N).length = cc at h4
  generalize cb.drop (List.replicate 8 N).length = cd at h5
  obtain ⟨cf, hcf, rfl⟩ := tr_ints Tryd.underlying3 8 h4
  match cd, h5 with
  | vd :: vr :: vb :: ce, ⟨hd, hr, hb, h6⟩ =>
  obtain ⟨h7, h8⟩ := All2.split h6
  have e2 := List.take_append_drop (List.replicate 5 N).length ce
  rw [← e2]
  generalize ce.take (List.replicate 5 N).length = cg at h7
  generalize ce.drop (List.replicate 5 N).length = ch at h8
  obtain ⟨five, h5l, rfl⟩ := tr_ints Tryd.underlying3 5 h7
  obtain ⟨h9, h10⟩ := All2.split h8
  have e3 := List.take_append_drop (List.replicate 8 N).length ch
  rw [← e3]
  generalize ch.take (List.replicate 8 N).length = ci at h9
  generalize ch.drop (List.replicate 8 N).length = cj at h10
  obtain ⟨fl, hfl, rfl⟩ := tr_ints Tryd.underlying3 8 h9
  obtain ⟨two, h2l, rfl⟩ := tr_ints Tryd.underlying3 2 h10
  obtain ⟨sg, gs, rfl, kg, kgo⟩ := tr_row (α := Gr) (k := 2) (f := Gr.cells) (p := fun g => g.ok w) Tryd.underlying25 (by kernel_rfl) (fun n cs x hx => gr_el (trod_flat 4 _ _ flG n cs x hx)) hg
  obtain ⟨sd, ds, rfl, kd, _⟩ := tr_row (α := Det) (k := 7) (f := Det.cells) (p := fun _ => True) Tryd.underlying27 (by kernel_rfl) (fun n cs x hx => (det_el (trod_flat 4 _ _ flD n cs x hx)).imp fun v hv => ⟨hv, trivial⟩) hd
  obtain ⟨sr, rs, rfl, kr, _⟩ := tr_row (α := Rl) (k := 11) (f := Rl.cells) (p := fun _ => True) Tryd.underlying28 (by kernel_rfl) (fun n cs x hx => (rl_el (trod_flat 4 _ _ flR n cs x hx)).imp fun v hv => ⟨hv, trivial⟩) hr
  obtain ⟨sb, bs, rfl, kb, _⟩ := tr_row (α := Bs) (k := 2) (f := Bs.cells) (p := fun _ => True) Tryd.underlying29 (by kernel_rfl) (fun n cs x hx => (bs_el (trod_flat 4 _ _ flB n cs x hx)).imp fun v hv => ⟨hv, trivial⟩) hb
  match five, h5l, two, h2l with
  | [a, b, c, d, e], _, [f, g], _ =>
  refine ⟨⟨sg, sd, sr, sb⟩, ⟨ps, gs.map Gr.data, cf, ds, rs, bs, a, b, c, d, e, fl, f, g⟩, ?_, ⟨by rw [hp1, hL], hcf, hfl, ⟨gs, rfl, kg, kgo⟩, kd, kr, kb⟩⟩
  rw [hp2]
  simp only [Tab.cells, List.length_map, List.cons_append, List.nil_append, List.map_cons, List.map_nil]
end
end TabArg
namespace May
open Go.ChangeShapes Go.WideShapes Go.ChangeAt Go.RowKit
open Tab
theorem ret_bool {a b : Bool} (h : a = b) : Ending.returned (.bool a) = .returned (.bool b) := by rw [h]
/-- Are all numbers from 0 to m? -/
def inB (m : Int) (n : Int) : Bool := decide (0 ≤ n) && decide (n ≤ m)
def allIn (m : Int) (l : List Int) : Bool := l.all (inB m)
theorem take_succ' {α : Type} (l : List α) (k : Nat) (v : α) (h : l[k]? = some v) : l.take (k + 1) = l.take k ++ [v] := by
  rw [List.take_add_one, h]; rfl
theorem all_step {α : Type} {f : α → Bool} {l : List α} {k : Nat} {v : α} (h : l[k]? = some v) (hk : (l.take k).all f = true) (hv : f v = true) : (l.take (k + 1)).all f = true := by
  rw [take_succ' l k v h, List.all_append, hk]; simp [hv]
end May
end Go.Proofs.YtkccepdifgldeaaDoor
namespace Go.Proofs.Fl
open Ieee
abbrev D : Format := Ieee.double
theorem lp_eq : D.leastPlace = -1074 := by decide
theorem binade_eq : D.binade = 4503599627370496 := by decide
theorem inf_eq : D.infRung = 9218868437227405312 := by decide
theorem sw_eq : D.signWeight = 9223372036854775808 := by decide
theorem fb_eq : D.fractionBits = 52 := rfl
/-! rounding a natural number at a binary place -/
/-- v / 2^d, rounded to the nearest, between two to the even one -/
def rhe (v d : Nat) : Nat := v / 2 ^ d + (decide (2 ^ d < 2 * (v % 2 ^ d)) || (2 ^ d == 2 * (v % 2 ^ d) && v / 2 ^ d % 2 == 1)).toNat
theorem rhe_zero (v : Nat) : rhe v 0 = v := by
  unfold rhe; simp [Nat.mod_one]
theorem rhe_exact (v d : Nat) (h : v % 2 ^ d = 0) : rhe v d = v / 2 ^ d := by
  have hp : 0 < 2 ^ d := Nat.two_pow_pos d
  unfold rhe; rw [h]
  simp
/-- a common power of two falls out -/
theorem rhe_scale (v d k : Nat) : rhe (v * 2 ^ k) (d + k) = rhe v d := by
  have hk : 0 < 2 ^ k := Nat.two_pow_pos k
  unfold rhe
  rw [Nat.pow_add, Nat.mul_div_mul_right _ _ hk, Nat.mul_mod_mul_right]
  have e1 : decide (2 ^ d * 2 ^ k < 2 * (v % 2 ^ d * 2 ^ k)) = decide (2 ^ d < 2 * (v % 2 ^ d)) := by
    rw [← Nat.mul_assoc]; exact decide_eq_decide.2 (Nat.mul_lt_mul_right hk)
  have e2 : (2 ^ d * 2 ^ k == 2 * (v % 2 ^ d * 2 ^ k)) = (2 ^ d == 2 * (v % 2 ^ d)) := by
    rw [← Nat.mul_assoc, Bool.eq_iff_iff, beq_iff_eq, beq_iff_eq]
    exact ⟨fun h => Nat.eq_of_mul_eq_mul_right hk h, fun h => congrArg (· * 2 ^ k) h⟩
  rw [e1, e2]
/-- what 'cut' gives, to the even one -/
theorem cut_even (neg : Bool) (n drop : Nat) : Toward.even.cut neg n drop = rhe n drop := by
  have key : ∀ g, g = drop ∨ (g ≤ drop ∧ n.log2 + 2 ≤ g) → rhe n g = rhe n drop := by
    intro g hg
    rcases hg with rfl | ⟨h1, h2⟩
    · rfl
    · have small : ∀ e, n.log2 + 2 ≤ e → rhe n e = 0 := by
        intro e he
        have hn : n < 2 ^ (n.log2 + 1) := Nat.lt_log2_self
        have hpe : 2 ^ (n.log2 + 2) ≤ 2 ^ e := Nat.pow_le_pow_right (by decide) he
        have hs : 2 ^ (n.log2 + 2) = 2 ^ (n.log2 + 1) * 2 := Nat.pow_succ ..
        unfold rhe
        rw [Nat.div_eq_of_lt (by omega), Nat.mod_eq_of_lt (by omega)]
        have c1 : ¬ 2 ^ e < 2 * n := by omega
        have c2 : ¬ 2 ^ e = 2 * n := by omega
        simp [c1]
      rw [small g h2, small drop (by omega)]
  have h := key (min drop (n.log2 + 2)) (by omega)
  rw [← h]
  unfold Toward.cut rhe
  simp only [Nat.one_shiftLeft]
/-! the rung of a number v * 2^(-1074 - E) -/
def rungV (E v : Nat) : Nat := (max (v.log2 - 52) E - E) * 4503599627370496 + rhe v (max (v.log2 - 52) E)
theorem log2_mul_pow (m P : Nat) (h : m ≠ 0) : (m * 2 ^ P).log2 = m.log2 + P := by
  have hp : m * 2 ^ P ≠ 0 := Nat.mul_ne_zero h (by have := Nat.two_pow_pos P; omega)
  rw [Nat.log2_eq_iff hp]
  have h1 := Nat.log2_self_le h
  have h2 : m < 2 ^ (m.log2 + 1) := Nat.lt_log2_self
  have hP := Nat.two_pow_pos P
  rw [Nat.add_right_comm, Nat.pow_add, Nat.pow_add 2 (m.log2 + 1)]
  exact ⟨Nat.mul_le_mul_right _ h1, (Nat.mul_lt_mul_right hP).2 h2⟩
theorem nearest_eq (neg : Bool) (m : Nat) (p : Int) (P E : Nat) (h : p + 1074 + E = P) : D.nearest neg m p = D.word neg (min (rungV E (m * 2 ^ P)) D.infRung) := by
  unfold Format.nearest
  by_cases hm : m = 0
  · subst hm
    rw [if_pos rfl, Nat.zero_mul]
    have : rungV E 0 = 0 := by
      unfold rungV rhe
      have e : max (Nat.log2 0 - 52) E = E := by rw [Nat.log2_zero]; omega
      rw [e, Nat.zero_div, Nat.zero_mod]
      simp
    rw [this]; rfl
  rw [if_neg hm]
  dsimp only
  rw [lp_eq, binade_eq, fb_eq]
  refine congrArg (fun t => D.word neg (min t D.infRung)) ?_
  have hl : (m * 2 ^ P).log2 = m.log2 + P := log2_mul_pow m P hm
  have hlast : max (p + (m.log2 : Int) - ((52 : Nat) : Int)) (-1074) = ((max ((m * 2 ^ P).log2 - 52) E : Nat) : Int) - 1074 - E := by
    rw [hl]; omega
  rw [hlast, cut_even]
  unfold rungV
  generalize max ((m * 2 ^ P).log2 - 52) E = L at *
  have a1 : ((L : Int) - 1074 - (E : Int) - -1074).toNat = L - E := by omega
  rw [a1]
  congr 1
  rw [Nat.shiftLeft_eq]
  by_cases hPL : L ≤ P
  · have a2 : (p - ((L : Int) - 1074 - E)).toNat = P - L := by omega
    have a3 : ((L : Int) - 1074 - E - p).toNat = 0 := by omega
    rw [a2, a3, rhe_zero]
    have hx : m * 2 ^ P = m * 2 ^ (P - L) * 2 ^ L := by rw [Nat.mul_assoc, ← Nat.pow_add]; congr 2; omega
    rw [hx]
    have := rhe_scale (m * 2 ^ (P - L)) 0 L
    rw [Nat.zero_add] at this
    rw [this, rhe_zero]
  · have a2 : (p - ((L : Int) - 1074 - E)).toNat = 0 := by omega
    have a3 : ((L : Int) - 1074 - E - p).toNat = L - P := by omega
    rw [a2, a3, Nat.pow_zero, Nat.mul_one]
    have := rhe_scale m (L - P) P
    rw [show L - P + P = L by omega] at this
    exact this.symm
/-! the value of a rung, times 2^1074 -/
def val (r : Nat) : Nat := if r < 4503599627370496 then r else (4503599627370496 + r % 4503599627370496) * 2 ^ (r / 4503599627370496 - 1)
theorem val_lt {r r' : Nat} (h : r < r') : val r < val r' := by
  unfold val
  by_cases h1 : r < 4503599627370496
  · rw [if_pos h1]
    by_cases h2 : r' < 4503599627370496
    · rw [if_pos h2]; exact h
    · rw [if_neg h2]
      have := Nat.two_pow_pos (r' / 4503599627370496 - 1)
      have : (4503599627370496 + r' % 4503599627370496) * 1 ≤ (4503599627370496 + r' % 4503599627370496) * 2 ^ (r' / 4503599627370496 - 1) := Nat.mul_le_mul_left _ this
      omega
  · have h2 : ¬ r' < 4503599627370496 := by omega
    rw [if_neg h1, if_neg h2]
    have hq : r / 4503599627370496 ≤ r' / 4503599627370496 := Nat.div_le_div_right (by omega)
    by_cases e : r / 4503599627370496 = r' / 4503599627370496
    · rw [e]; exact (Nat.mul_lt_mul_right (Nat.two_pow_pos _)).2 (by omega)
    · have hm : r % 4503599627370496 < 4503599627370496 := Nat.mod_lt _ (by decide)
      have hm' : r' % 4503599627370496 < 4503599627370496 := Nat.mod_lt _ (by decide)
      have p1 : 2 ^ (r / 4503599627370496) ≤ 2 ^ (r' / 4503599627370496 - 1) := Nat.pow_le_pow_right (by decide) (by omega)
      have p0 : 2 ^ (r / 4503599627370496) = 2 ^ (r / 4503599627370496 - 1) * 2 := by
        rw [← Nat.pow_succ]; congr 1; omega
      have hpos := Nat.two_pow_pos (r / 4503599627370496 - 1)
      have s1 : (4503599627370496 + r % 4503599627370496) * 2 ^ (r / 4503599627370496 - 1) < 9007199254740992 * 2 ^ (r / 4503599627370496 - 1) := (Nat.mul_lt_mul_right hpos).2 (by omega)
      have s2 : 4503599627370496 * 2 ^ (r' / 4503599627370496 - 1) ≤ (4503599627370496 + r' % 4503599627370496) * 2 ^ (r' / 4503599627370496 - 1) := Nat.mul_le_mul_right _ (by omega)
      omega
theorem val_le {r r' : Nat} (h : r ≤ r') : val r ≤ val r' := by
  rcases Nat.eq_or_lt_of_le h with rfl | h
  · exact Nat.le_refl _
  · exact Nat.le_of_lt (val_lt h)
/-- a number of at most 53 binary digits is what its rung stands for -/
theorem val_rungV (v : Nat) (h : v % 2 ^ (v.log2 - 52) = 0) : val (rungV 0 v) = v := by
  unfold rungV
  rw [show max (v.log2 - 52) 0 = v.log2 - 52 by omega, Nat.sub_zero, rhe_exact _ _ h]
  have hdm := Nat.div_add_mod v (2 ^ (v.log2 - 52))
  rw [h, Nat.add_zero] at hdm
  by_cases h52 : v.log2 ≤ 52
  · rw [show v.log2 - 52 = 0 by omega] at hdm ⊢
    simp only [Nat.pow_zero, Nat.div_one, Nat.zero_mul, Nat.zero_add]
    have hv : v < 2 ^ (v.log2 + 1) := Nat.lt_log2_self
    have : 2 ^ (v.log2 + 1) ≤ 2 ^ 53 := Nat.pow_le_pow_right (by decide) (by omega)
    have e53 : (2 : Nat) ^ 53 = 9007199254740992 := by decide
    unfold val
    split
    · rfl
    · rw [show v / 4503599627370496 = 1 by omega]; simp; omega
  · have hv0 : v ≠ 0 := by intro h0; subst h0; rw [Nat.log2_zero] at h52; omega
    have hlo := Nat.log2_self_le hv0
    have hhi : v < 2 ^ (v.log2 + 1) := Nat.lt_log2_self
    have c1 : 4503599627370496 ≤ v / 2 ^ (v.log2 - 52) := by
      rw [Nat.le_div_iff_mul_le (Nat.two_pow_pos _), show (4503599627370496 : Nat) = 2 ^ 52 by decide, ← Nat.pow_add, show 52 + (v.log2 - 52) = v.log2 by omega]
      exact hlo
    have c2 : v / 2 ^ (v.log2 - 52) < 9007199254740992 := by
      rw [Nat.div_lt_iff_lt_mul (Nat.two_pow_pos _), show (9007199254740992 : Nat) = 2 ^ 53 by decide, ← Nat.pow_add, show 53 + (v.log2 - 52) = v.log2 + 1 by omega]
      exact hhi
    generalize hL : v.log2 - 52 = L at *
    generalize hc : v / 2 ^ L = c at *
    unfold val
    rw [if_neg (by have : 1 * 4503599627370496 ≤ L * 4503599627370496 := Nat.mul_le_mul_right _ (by omega); omega)]
    have e1 : (L * 4503599627370496 + c) / 4503599627370496 = L + 1 := by omega
    have e2 : (L * 4503599627370496 + c) % 4503599627370496 = c - 4503599627370496 := by omega
    rw [e1, e2, show 4503599627370496 + (c - 4503599627370496) = c by omega, show L + 1 - 1 = L by omega, Nat.mul_comm]
    exact hdm
theorem thin (c e : Nat) (h : c < 9007199254740992) : (c * 2 ^ e) % 2 ^ ((c * 2 ^ e).log2 - 52) = 0 := by
  by_cases hc : c = 0
  · subst hc; simp
  · rw [log2_mul_pow c e hc]
    have hl : c.log2 < 53 := (Nat.log2_lt hc).2 (by rw [show (2 : Nat) ^ 53 = 9007199254740992 by decide]; exact h)
    have hd : 2 ^ (c.log2 + e - 52) ∣ 2 ^ e := Nat.pow_dvd_pow 2 (by omega)
    exact Nat.mod_eq_zero_of_dvd (Nat.dvd_trans hd (Nat.dvd_mul_left _ _))
/-! words -/
def rung (x : Nat) : Nat := x % 9223372036854775808
def sg (x : Nat) : Bool := x / 9223372036854775808 % 2 == 1
def isn (x : Nat) : Bool := decide (9218868437227405312 < rung x)
def key (x : Nat) : Int := if sg x then -(rung x : Int) else rung x
/-- finite -/
def fin (x : Nat) : Prop := rung x < 9218868437227405312
theorem read_fin (x : Nat) (h : fin x) : ∃ (m : Nat) (i : Int) (P : Nat), D.read x = .number (sg x) m i ∧ i + 1074 = P ∧ m * 2 ^ P = val (rung x) ∧ m < 9007199254740992 := by
  unfold fin at h
  unfold Format.read
  dsimp only
  rw [sw_eq, binade_eq, inf_eq, lp_eq]
  by_cases h1 : rung x < 4503599627370496
  · refine ⟨rung x, -1074, 0, ?_, by omega, ?_, by omega⟩
    · show (if rung x < _ then _ else _) = _
      rw [if_pos h1]; rfl
    · unfold val; rw [if_pos h1]; simp
  · refine ⟨4503599627370496 + rung x % 4503599627370496, -1074 + ((rung x / 4503599627370496 - 1 : Nat) : Int), rung x / 4503599627370496 - 1, ?_, by omega, ?_, by omega⟩
    · show (if rung x < _ then _ else _) = _
      rw [if_neg h1]
      show (if rung x < _ then _ else _) = _
      rw [if_pos h]; rfl
    · unfold val; rw [if_neg h1]
/-! the six comparisons, by the keys -/
/-! exact sums -/
def T : Nat := 1074
theorem T_eq : T = 1074 := rfl
/-! whole numbers -/
theorem lt_val_inf (v : Nat) (h : v < 2 ^ (53 + T)) : v < val 9218868437227405312 := by
  unfold val
  rw [if_neg (by omega)]
  generalize he : 9218868437227405312 / 4503599627370496 - 1 = e
  have h52 : (4503599627370496 + 9218868437227405312 % 4503599627370496) = 2 ^ 52 := by decide
  rw [h52, ← Nat.pow_add]
  exact Nat.lt_of_lt_of_le h (Nat.pow_le_pow_right (by decide) (by rw [T_eq]; omega))
/-- a whole number below 2^53 as a word: its rung, its value -/
def irung (n : Nat) : Nat := rungV 0 (n * 2 ^ T)
theorem val_irung (n : Nat) (h : n < 9007199254740992) : val (irung n) = n * 2 ^ T := val_rungV _ (thin n T h)
theorem irung_lt (n : Nat) (h : n < 9007199254740992) : irung n < 9218868437227405312 := by
  have hv := val_irung n h
  have : n * 2 ^ T < val 9218868437227405312 := by
    apply lt_val_inf
    rw [Nat.pow_add]
    exact (Nat.mul_lt_mul_right (Nat.two_pow_pos T)).2 (by rw [show (2 : Nat) ^ 53 = 9007199254740992 by decide]; exact h)
  rw [← hv] at this
  exact Nat.lt_of_not_le fun hh => by have := val_le hh; omega
theorem write_int (s : Bool) (n : Nat) (h : n < 9007199254740992) : D.write (.number s n 0) = D.word s (irung n) := by
  unfold Format.write
  dsimp only
  rw [nearest_eq s n 0 T 0 (by rw [T_eq]; omega), inf_eq]
  have := irung_lt n h
  rw [Nat.min_eq_left (by unfold irung at this; omega)]
  rfl
end Go.Proofs.Fl
namespace Go.Proofs.YtkccepdifgldeaaDoor
end Go.Proofs.YtkccepdifgldeaaDoor
namespace Go.Proofs.Fl
open Ieee
/-- ten, 999.9, a half -/
abbrev ten : Nat := 4621819117588971520
abbrev half : Nat := 4602678819172646912
/-- the seconds that have ticks -/
def ok (s : Nat) : Bool := !isn s && decide (0 ≤ key s) && decide (key s ≤ 4652006429231887155)
/-! the same by the other way: cut, and one more where the rest is more than a half -/
theorem float_of (n : Nat) (h : n < 9007199254740992) : floatOfInt .f64 (n : Int) = irung n := by
  show D.write (.number (decide ((n : Int) < 0)) (n : Int).natAbs 0) = _
  rw [show (n : Int).natAbs = n by omega, write_int _ n h, decide_eq_false (by omega)]
  rfl
/-! all seconds of whole ticks, by calculation -/
/-- n / 10 -/
def ofB (n : Nat) : Nat := (D.div (floatOfInt .f64 (n : Int)) ten).getD 0
end Go.Proofs.Fl
namespace Go.Proofs.YtkccepdifgldeaaDoor
namespace Secs
open Go.ChangeShapes Go.WideShapes Go.ChangeAt Go.RowKit Go.Proofs.Fl
/-! is it a number? -/
/-! seconds of ticks -/
/-- that the quotients are what they are: proved by calculation elsewhere -/
def Quo : Prop := ∀ k : Nat, k ≤ 9999 → D.div (floatOfInt .f64 (k : Int)) ten = some (ofB k)
theorem quo_holds : Quo := by
  intro k hk
  have hf := float_of k (by omega)
  have hi := irung_lt k (by omega)
  obtain ⟨m, i, P, rx, -, -, -⟩ := read_fin (irung k) (by unfold fin rung; omega)
  have : ∃ s, D.div (floatOfInt .f64 (k : Int)) ten = some s := by
    rw [hf]
    unfold Ieee.Format.div
    rw [rx, show D.read ten = .number false 5629499534213120 (-49) by decide]
    unfold Ieee.Datum.quotient
    dsimp only
    rw [if_neg (by decide)]
    exact ⟨_, rfl⟩
  obtain ⟨s, hs⟩ := this
  unfold ofB
  rw [hs]
  rfl
theorem quo_at (hQ : Quo) (k : Int) (hk0 : 0 ≤ k) (hk : k ≤ 9999) : ∀ t w, (binOp .quo t (.float .f64 (floatOfInt .f64 k)) (.float .f64 4621819117588971520)).run Tryd.prog w = .ok (.float .f64 (ofB k.toNat)) w := by
  intro t w
  obtain ⟨n, rfl⟩ := Int.eq_ofNat_of_zero_le hk0
  exact run_float_arith w .quo t .f64 _ _ _ (hQ n (by omega))
/-! how two stand to each other, named -/
/-! Ticks -/
end Secs
namespace MayF
open Go.ChangeShapes Go.WideShapes Go.ChangeAt Go.RowKit Go.Proofs.Fl
open Secs
/-- A float's sign, as Signbit asks for it. -/
def neg (x : Nat) : Bool := decide (wrap64 (x : Int) < 0)
/-- A level. -/
def level (x : Nat) : Bool := !isn x && decide (0 < key x) && decide (key x ≤ 4696837146684686336)
/-- Seconds. -/
def span (x : Nat) : Bool := ok x && !neg x
end MayF
namespace May
open Go.ChangeShapes Go.WideShapes Go.ChangeAt Go.RowKit
open Tab MayF
def Ph.may (p : Ph) : Bool := allIn 9999 [p.min, p.gap, p.max, p.top, p.step, p.yellow, p.red, p.walk, p.blinks] && allIn 3 [p.recall]
def rowMay (l : List Int) : Bool := decide (l.length ≤ 8) && allIn 7 l
def groupMay (g : List Int × List Int) : Bool := rowMay g.1 && rowMay g.2
def Det.may (d : Det) : Bool := allIn 7 [d.phase] && (level d.on && (level d.off && (span d.delay && (span d.extend && allIn 9999 [d.maxOn, d.maxOff]))))
def Rl.may (r : Rl) : Bool := allIn 255 [r.bars, r.clear, r.dwell, r.exit] && (allIn 9999 [r.delay, r.green, r.foot, r.hold, r.stay, r.most] && allIn 2147483647 [r.limit])
def Bs.may (b : Bs) : Bool := allIn 255 [b.set] && allIn 9999 [b.lock]
theorem row_new (w : World) (t : TypeId) (l : List Int) (n : Nat) (hn : l.length = n) (hm : n ≤ maxLen) (k : Nat) (hk : w.heap.size = k) : IntRow (w.alloc (.cells (l.map I).toArray t)) ⟨some ⟨k, 0, none⟩, n⟩ l := by
  subst hn hk
  refine .inr ⟨_, rfl, Nat.le_refl _, hm, fun i v hv j u hu => ?_⟩
  cases j with
  | zero =>
    obtain rfl := Option.some.inj hu
    rw [Nat.mul_one, add_two, Nat.add_zero, Addr.add_mid, Nat.zero_add]
    rw [cell_of_row _ _ _ _ _ _ (heap_alloc_new w _)]
    simp [hv]
  | succ j => cases hu
end May
namespace May
open Go.ChangeShapes Go.WideShapes Go.ChangeAt Go.RowKit
open Tab
theorem chain {a b c : World} (h : Below a.heap.size a b) (k : Below b.heap.size b c) : Below a.heap.size a c := h.trans (k.mono h.size)
theorem infoP : (Tryd.prog.info? 23).map (·.size) = some 13 := by kernel_rfl
theorem infoG : (Tryd.prog.info? 86).map (·.size) = some 2 := by kernel_rfl
theorem infoD : (Tryd.prog.info? 75).map (·.size) = some 7 := by kernel_rfl
theorem infoR : (Tryd.prog.info? 78).map (·.size) = some 11 := by kernel_rfl
theorem infoB : (Tryd.prog.info? 53).map (·.size) = some 2 := by kernel_rfl
end May
namespace Same
open Go.ChangeShapes Go.WideShapes
open Tab Flat
def Eqs (t : TypeId) (xs ys : List Value) (b : Bool) : Prop := ∀ w : World, (Op.equalIn 10000 t (.agg xs.toArray) (.agg ys.toArray)).run Tryd.prog w = .ok b w
theorem eqs_of {d : Nat} {t : TypeId} {ts : List TypeId} (h : flat Tryd.prog d t = some ts) (hd : d ≤ 10000) (hr : rowT Tryd.prog t = true) (zs : List (Value × Value)) (hall : All2 (LeafEq Tryd.prog) ts zs) {xs ys : List Value} (hx : zs.map (·.1) = xs) (hy : zs.map (·.2) = ys) {p : Prop} [Decidable p]
    (hp : xs = ys ↔ p) : Eqs t xs ys (decide p) := by
  subst hx hy
  obtain ⟨b, hb, hiff⟩ := eql_flat h hd hr zs hall
  rw [hp] at hiff
  have e : b = decide p := by
    by_cases hq : p
    · rw [decide_eq_true hq]; exact hiff.2 hq
    · rw [decide_eq_false hq]; cases b
      · rfl
      · exact absurd (hiff.1 rfl) hq
  intro w
  rw [hb w, e]
theorem lint (a b : Int) : LeafEq Tryd.prog 3 (I a, I b) := leaf_int Tryd.underlying3 a b
def single (T : Tab) : List Int := [T.extend, T.budget, T.start, T.revert, T.least, T.window, T.share]
end Same
namespace QL
open Go Go.RowKit
open Tab
/-- A whole row is loaded in a walk by a class. -/
theorem wpQuiet_load {P : Program} {C : World → Prop} {ops : Array Oper} {Q : Act → Prop} {a : Act} {o : Oper} {rest : List Oper} (hw : Region.wanted o (yielded ops a.tmps) = true) (ty : TypeId) (x : Operand) (ho : o.op = .load ty x) (y : Addr) (hx : a.eval x = .pointer (some y))
    (cs : List Value) (d : TypeDesc) (hc : ∀ w, C w → Lies w y cs) (hu : P.underlying ty = some d) (hd : d.isRow = true) (hi : (P.info? ty).map (·.size) = some cs.length) (h : wpQuiet P ops C Q rest (a.put o.dst (.agg cs.toArray))) : wpQuiet P ops C Q (o :: rest) a :=
  wpQuiet_step fun K hK => by
    rw [if_pos hw]
    refine ⟨_, fun w hw' => ?_, hK _ h⟩
    unfold Oper.quietAt execOp
    simp only [ho, hx, Instr.loadAt, Instr.sureAddr, Sem.run_bind, Sem.run_pure, Result.andThen_ok, Row.run_loadVar_lies w y ty cs d (hc w hw') hu hd hi]
    exact ⟨rfl, rfl⟩
end QL
namespace QT
open Go Go.RowKit
section
variable {P : Program} {ops : Array Oper} {md : Region.Mode} {C : World → Prop} {m n : Nat}
/-- Nothing of the end comes up ahead of the head: each of the head is waited for by a later one, at the latest by number n. -/
def sinks (md : Region.Mode) (ops : Array Oper) (m n : Nat) : Bool := (List.range n).all fun i => decide (i < m) || (List.range (n + 1)).any fun j => decide (i < j) && Region.waitsFor md ops j i
/-- The first m wait for none but the first m. -/
def shut (md : Region.Mode) (ops : Array Oper) (m : Nat) : Bool := (List.range m).all fun j => match ops[j]? with | some o => o.after.all fun e => !Region.binds md e || decide (e.on < m) | none => true
def begun (ops : Array Oper) (m : Nat) : Array Bool := Array.replicate m true ++ Array.replicate (ops.size - m) false
/-- What has come up: the first m, and what it waits for. -/
structure Inv (md : Region.Mode) (ops : Array Oper) (m n : Nat) (L : Array Bool) : Prop where
  size : L.size = ops.size
  first : ∀ j, j < m → L.getD j false = true
  back : ∀ j o, ops[j]? = some o → L.getD j false = true → ∀ e ∈ o.after, Region.binds md e = true → L.getD e.on false = true
  rest : ∀ t, n ≤ t → t < ops.size → L.getD t true = false
theorem Inv.set {i : Nat} {L : Array Bool} (h : Inv md ops m n L) (hi : i ∈ Region.ready md ops L) (hn : i < n) : Inv md ops m n (L.setIfInBounds i true) := by
  obtain ⟨_, oi, hoi, hall⟩ := mem_ready.1 hi
  refine ⟨by simp [h.size], fun j hj => getD_set_true (h.first j hj), fun j o hj hl e he hb => ?_, fun t h1 h2 => (getD_set_ne true (by omega)).trans (h.rest t h1 h2)⟩
  rcases Nat.decEq i j with hij | hij
  · rw [getD_set_ne false hij] at hl
    exact getD_set_true (h.back j o hj hl e he hb)
  · subst hij
    obtain rfl : o = oi := Option.some.inj (hj.symm.trans hoi)
    exact getD_set_true (hall e he hb)
/-- As long as one of the head has not come up, none of the end is ready. -/
theorem later {L : Array Bool} (hs : sinks md ops m n = true) (hc : Region.chainB md ops n = true) (hn : n < ops.size) (h : Inv md ops m n L) :
    ∀ (d i : Nat), n - i ≤ d → i < n → L.getD i true = false → ∀ t ∈ Region.ready md ops L, t < n
  | 0, i, hd, hi, _, _, _ => by omega
  | d + 1, i, hd, hi, hun, t, ht => by
    rcases Nat.lt_or_ge t n with hlt | hge
    · exact hlt
    exfalso
    obtain ⟨_, ot, hot, hall⟩ := mem_ready.1 ht
    have htl : t < ops.size := (Array.getElem?_eq_some_iff.1 hot).1
    rcases Nat.eq_or_lt_of_le hge with rfl | hgt
    · have h1 := List.all_eq_true.1 hs i (List.mem_range.2 hi)
      have hm : ¬ i < m := fun hm => by have := getD_both hun; rw [h.first i hm] at this; cases this
      rw [decide_eq_false hm, Bool.false_or] at h1
      obtain ⟨j, hj, hj2⟩ := List.any_eq_true.1 h1
      simp only [Bool.and_eq_true, decide_eq_true_eq] at hj2
      obtain ⟨oj, hoj, e, he, hb, hon⟩ := Region.waitsFor_spec hj2.2
      have hjl := List.mem_range.1 hj
      have hno : L.getD e.on false = false := by rw [hon]; exact getD_both hun
      by_cases hjt : j = n
      · subst hjt
        obtain rfl : oj = ot := Option.some.inj (hoj.symm.trans hot)
        rw [hall e he hb] at hno
        cases hno
      · cases hl : L.getD j false with
        | true => rw [h.back j oj hoj hl e he hb] at hno; cases hno
        | false => exact absurd (later hs hc hn h d j (by omega) (by omega) (getD_in (by rw [h.size]; omega) hl) n ht) (by omega)
    · have h1 := List.all_eq_true.1 hc t (List.mem_range.2 htl)
      simp only [Bool.or_eq_true, decide_eq_true_eq] at h1
      obtain ⟨o', ho', e, he, hb, hon⟩ := Region.waitsFor_spec (h1.resolve_left (by omega))
      obtain rfl : o' = ot := Option.some.inj (ho'.symm.trans hot)
      have h2 := hall e he hb
      rw [hon, getD_both (h.rest (t - 1) (by omega) (by omega))] at h2
      cases h2
/-- Whatever of the head comes up next. -/
def anyT (P : Program) (md : Region.Mode) (ops : Array Oper) (C : World → Prop) (n : Nat) (E : Array Bool → Act → Prop) : Nat → Array Bool → Act → Prop
  | 0, L, a => E L a
  | f + 1, L, a => Region.ready md ops L ≠ [] ∧ ∀ i ∈ Region.ready md ops L, i < n ∧ qOp P ops C i (anyT P md ops C n E f (L.setIfInBounds i true)) a
theorem wpAny_of {g : Nat} {E : Array Bool → Act → Prop} {Q : Exit → Act → World → Prop} (hE : ∀ L a w, C w → E L a → wpAny P md ops Q g L a w) : ∀ (f : Nat) (L : Array Bool) (a : Act) (w : World), C w → anyT P md ops C n E f L a → wpAny P md ops Q (f + g) L a w
  | 0, L, a, w, hw, h => by rw [Nat.zero_add]; exact hE _ _ _ hw h
  | f + 1, L, a, w, hw, h => by
    rw [Nat.add_right_comm]
    exact ⟨fun h0 => absurd h0 h.1, fun i hi => wpOp_of_qOp hw (fun a' w' hw' h' => wpAny_of hE f _ a' w' hw' h') (h.2 i hi).2⟩
theorem one {i : Nat} {oi : Oper} {v : Value} {E : Array Bool → Act → Prop} (hi : ops[i]? = some oi) (hsel : ∀ (j : Nat) (o : Oper) cs b, ops[j]? = some o → o.op ≠ .select cs b)
    (hs : sinks md ops m n = true) (hc : Region.chainB md ops n = true) (hn : n < ops.size) (hin : i < n) (hE : ∀ L a, E L a → ∀ j ∈ Region.ready md ops L, n ≤ j) : ∀ (f : Nat) (L : Array Bool) (a : Act), Inv md ops m n L →
      (∀ j oj, ops[j]? = some oj → j ≠ i → L.getD j true = false → (∀ e ∈ oj.after, Region.binds md e = true → e.on ≠ i) → oi.apart ops oj = true) →
      i ∈ Region.ready md ops L → YieldsIn P ops C oi v a → anyT P md ops C n E f (L.setIfInBounds i true) (a.put oi.dst v) → anyT P md ops C n E (f + 1) L a := by
  intro f
  induction f with
  | zero =>
    intro L a inv _ hr hy H
    refine ⟨List.ne_nil_of_mem hr, fun j hj => ?_⟩
    have hjn := later hs hc hn inv _ i (Nat.le_refl _) hin (mem_ready.1 hr).1 j hj
    refine ⟨hjn, ?_⟩
    rcases Nat.decEq j i with hji | rfl
    · exact absurd (hE _ _ H j (ready_mono hj hji)) (by omega)
    · exact hy.qOp hi H
  | succ f ih =>
    intro L a inv hfree hr hy H
    refine ⟨List.ne_nil_of_mem hr, fun j hj => ?_⟩
    have hjn := later hs hc hn inv _ i (Nat.le_refl _) hin (mem_ready.1 hr).1 j hj
    refine ⟨hjn, ?_⟩
    rcases Nat.decEq j i with hji | rfl
    · obtain ⟨hjun, oj, hoj, hall⟩ := mem_ready.1 hj
      have hno : ∀ e ∈ oj.after, Region.binds md e = true → e.on ≠ i := fun e he hb heq => by
        have h1 := hall e he hb
        rw [heq, getD_both (mem_ready.1 hr).1] at h1
        cases h1
      refine qOp_mono (fun a' h3 => ih (L.setIfInBounds j true) a' (inv.set hj hjn) (fun k ok hk hki hun hnk => ?_) (ready_mono hr (Ne.symm hji)) h3.1 ?_)
        (qOp_put hoj (hfree j oj hoj hji hjun hno) (fun cs b => hsel i oi cs b hi) (fun cs b => hsel j oj cs b hoj) hy (H.2 j (ready_mono hj hji)).2)
      · refine hfree k ok hk hki ?_ hnk
        rcases Nat.decEq j k with hjk | rfl
        · rwa [getD_set_ne true hjk] at hun
        · exact hjun
      · rw [Array.setIfInBounds_comm _ _ hji]
        exact h3.2
    · exact hy.qOp hi H
theorem lex {g : Nat} {E : Act → Prop} (hsel : Region.noSelect ops = true) (hs : sinks md ops m n = true) (hc : Region.chainB md ops n = true) (hn : n < ops.size) : ∀ (l : List Oper) (k : Nat) (L : Array Bool) (a : Act), (∀ j, j < l.length → l[j]? = ops[k + j]?) → k + l.length = n → Inv md ops m n L →
    Region.lexHead md ops g l.length k L = true → wpQuiet P ops C E l a → anyT P md ops C n (fun L' a' => Region.seqB md ops g n L' = true ∧ E a') l.length L a
  | [], k, L, a, _, hk, _, hB, h => by
    obtain rfl : k = n := hk
    exact ⟨hB, h⟩
  | o :: l, k, L, a, hl, hk, inv, hB, h => by
    have h0 : ops[k]? = some o := (hl 0 (Nat.zero_lt_succ _)).symm
    simp only [List.length_cons, Region.lexHead, Bool.and_eq_true] at hB hk
    obtain ⟨⟨hr, hf⟩, hB'⟩ := hB
    have hr' : k ∈ Region.ready md ops L := List.contains_iff_mem.1 hr
    have hst : qOp P ops C k (wpQuiet P ops C E l) a := by unfold qOp; rw [h0]; exact h
    obtain ⟨v, hy, hK⟩ := yieldsIn_of_qOp h0 hst
    refine one h0 (Region.noSelect_spec hsel) hs hc hn (by omega) (fun L' a' hL => seqB_ready hL.1) l.length L a inv (Region.free_spec h0 hf) hr' hy (lex hsel hs hc hn l (k + 1) _ _ (fun j hj => ?_) (by omega) (inv.set hr' (by omega)) hB' hK)
    have := hl (j + 1) (Nat.succ_lt_succ hj)
    rwa [show k + (j + 1) = k + 1 + j by omega] at this
theorem getD_begun {m j : Nat} (hm : m ≤ ops.size) (d : Bool) (hj : j < ops.size) : (begun ops m).getD j d = decide (j < m) := by
  have hsz : (begun ops m).size = ops.size := by simp [begun]; omega
  have h1 : (begun ops m)[j]? = some (decide (j < m)) := by
    unfold begun
    rw [Array.getElem?_append]
    split <;> rename_i h
    · simp at h; simp [h]
    · simp at h
      have hr : (Array.replicate (ops.size - m) false)[j - m]? = some false := by rw [Array.getElem?_replicate]; simp; omega
      simp only [Array.size_replicate]
      rw [hr]
      simp; omega
  rw [Array.getD_eq_getD_getElem?, h1]
  rfl
theorem inv_begun (hm : m ≤ n) (hn : n < ops.size) (hh : shut md ops m = true) : Inv md ops m n (begun ops m) := by
  have hsz : (begun ops m).size = ops.size := by simp [begun]; omega
  refine ⟨hsz, fun j hj => by rw [getD_begun (by omega) _ (by omega)]; simpa using hj, fun j o hj hl e he hb => ?_, fun t h1 h2 => by rw [getD_begun (by omega) _ h2]; simp; omega⟩
  have hjs : j < ops.size := (Array.getElem?_eq_some_iff.1 hj).1
  rw [getD_begun (by omega) _ hjs, decide_eq_true_eq] at hl
  have h1 := List.all_eq_true.1 hh j (List.mem_range.2 hl)
  simp only [hj] at h1
  have h2 := Array.all_eq_true_iff_forall_mem.1 h1 e he
  simp only [hb, Bool.not_true, Bool.false_or, decide_eq_true_eq] at h2
  rw [getD_begun (by omega) _ (by omega)]
  simpa using h2
def okB (md : Region.Mode) (ops : Array Oper) (m n : Nat) : Bool :=
  Region.noSelect ops && decide (n < ops.size) && decide (m ≤ n) && shut md ops m && sinks md ops m n && Region.chainB md ops n && Region.lexHead md ops (ops.size - n) (n - m) m (begun ops m)
/-- Behind the first m. -/
theorem behind {Q : Exit → Act → World → Prop} {a : Act} {w : World} {l : List Oper} (hB : okB md l.toArray m n = true) (hC : C w)
    (h : wpQuiet P l.toArray C (fun a' => ∀ w', C w' → wpList P l.toArray Q (l.drop n) a' w') ((l.take n).drop m) a) : wpAny P md l.toArray Q (l.length - m) (begun l.toArray m) a w := by
  simp only [okB, Bool.and_eq_true, decide_eq_true_eq] at hB
  obtain ⟨⟨⟨⟨⟨⟨hsel, hn⟩, hm⟩, hh⟩, hs⟩, hc⟩, hlex⟩ := hB
  have hn' : n < l.length := by simpa using hn
  have htl : ((l.take n).drop m).length = n - m := by simp; omega
  have hdl : (l.drop n).length = l.toArray.size - n := by simp
  have H := lex (md := md) (g := l.toArray.size - n) hsel hs hc hn ((l.take n).drop m) m _ a (fun j hj => by
    rw [htl] at hj
    rw [List.getElem?_drop, List.getElem?_take, if_pos (by omega)]
    simp) (by rw [htl]; omega) (inv_begun hm hn hh) (by rw [htl]; exact hlex) h
  have := wpAny_of (Q := Q) (g := l.toArray.size - n) (fun L a' w' hw' hL => by
    have := wpAny_of_seq (md := md) (Q' := Q) (l.drop n) n L a' w' (fun j => by simp [List.getElem?_drop]) (by rw [hdl]; exact hL.1) (hL.2 w' hw')
    rwa [hdl] at this) _ _ _ _ hC H
  rwa [htl, show n - m + (l.toArray.size - n) = l.length - m by simp; omega] at this
/-- **No pure ones ahead.** -/
theorem region {id : Nat} {Q : Exit → Act → World → Prop} {a : Act} {w : World} {l : List Oper} (B n : Nat) (hm : P.follows .mixedOrders = true) (hB : okB .any l.toArray 0 n = true)
    (h : wpQuiet P l.toArray (fun w' => ∃ p : QB.By B w, w' = p.world) (fun a' => ∀ w', (∃ p : QB.By B w, w' = p.world) → wpList P l.toArray Q (l.drop n) a' w') (l.take n) a) : (Code.region id l.toArray true).wp P Q a w := by
  have := behind (C := fun w' => ∃ p : QB.By B w, w' = p.world) (w := w.drew) (md := .any) (Q := Q) hB ⟨⟨w.drew, (Below.refl _ _).drew⟩, rfl⟩ (by simpa using h)
  refine wp_region_any hm ?_
  simpa [begun] using this
end
end QT
namespace Held
open Go Go.RowKit
open Tab
section
variable {P : Program} {ops : Array Oper} {Q : Exit → Act → World → Prop} {md : Region.Mode} {S : World → Prop}
theorem take {i : Nat} {oi : Oper} (d0 : Option Tmp) (hd0 : oi.dst = d0) {fuel : Nat} {listed : Array Bool} {a : Act} {w : World} {v : Value} (hi : ops[i]? = some oi) (hs : Region.noSelect ops = true) (hf : Region.free md ops listed i = true) (hr : (Region.ready md ops listed).contains i = true)
    (hQ : ∀ c a w, Q (.panic c) (a.put d0 v) w → Q (.panic c) a w) (hy : YieldsIf P ops S oi v a) (hS : S w)
    (h : wpAnyH P md ops Q S fuel (listed.setIfInBounds i true) (a.put d0 v) w) : wpAnyH P md ops Q S (fuel + 1) listed a w :=
  by
  subst hd0
  exact wpAnyH_take hi hs hf hr hQ hy hS h
theorem take_load {i : Nat} {oi : Oper} (d0 : Option Tmp) (hd0 : oi.dst = d0) {fuel : Nat} {listed : Array Bool} {a : Act} {w : World} (ty : TypeId) (x : Operand) (y : Addr) (cs : List Value) (d : TypeDesc) (hi : ops[i]? = some oi) (ho : oi.op = .load ty x) (hs : Region.noSelect ops = true) (hf : Region.free md ops listed i = true) (hr : (Region.ready md ops listed).contains i = true)
    (hQ : ∀ c a w, Q (.panic c) (a.put d0 (.agg cs.toArray)) w → Q (.panic c) a w) (hw : Region.wanted oi (yielded ops a.tmps) = true) (hS : S w) (hx : a.eval x = .pointer (some y)) (hc : ∀ w, S w → Lies w y cs) (hu : P.underlying ty = some d) (hd : d.isRow = true) (hz : (P.info? ty).map (·.size) = some cs.length)
    (h : wpAnyH P md ops Q S fuel (listed.setIfInBounds i true) (a.put d0 (.agg cs.toArray)) w) : wpAnyH P md ops Q S (fuel + 1) listed a w :=
  by
  subst hd0
  exact wpAnyH_take hi hs hf hr hQ (.inl ⟨hw, fun w' hw' => by
    unfold execOp
    simp only [ho, hx, Instr.loadAt, Instr.sureAddr, Sem.run_bind, Sem.run_pure, Result.andThen_ok, Row.run_loadVar_lies w' y ty cs d (hc w' hw') hu hd hz]⟩) hS h
theorem take_build {i : Nat} {oi : Oper} (d0 : Option Tmp) (hd0 : oi.dst = d0) {fuel : Nat} {listed : Array Bool} {a : Act} {w : World} (t : TypeId) (parts : Array (Nat × Operand)) (cells : Array Value) (hi : ops[i]? = some oi) (ho : oi.op = .build t parts) (hs : Region.noSelect ops = true) (hf : Region.free md ops listed i = true) (hr : (Region.ready md ops listed).contains i = true)
    (hQ : ∀ c a w, Q (.panic c) (a.put d0 (.agg cells)) w → Q (.panic c) a w) (hw : Region.wanted oi (yielded ops a.tmps) = true) (hS : S w) (hb : P.built t (parts.map fun (i, x) => (i, a.eval x)).toList = some cells)
    (h : wpAnyH P md ops Q S fuel (listed.setIfInBounds i true) (a.put d0 (.agg cells)) w) : wpAnyH P md ops Q S (fuel + 1) listed a w :=
  by
  subst hd0
  exact wpAnyH_take hi hs hf hr hQ (.inl ⟨hw, fun w' _ => by
    unfold execOp
    simp only [ho, Sem.run_bind, run_build w' t _ _ hb, Result.andThen_ok, Sem.run_pure]⟩) hS h
end
end Held
namespace Gap
open Go.ChangeShapes Go.WideShapes Go.ChangeAt Go.RowKit
open Tab Flat TabArg
open May (infoP)
structure Tn where
  lim : Int
  up : Int
  down : Int
deriving DecidableEq
def Tn.cells (s : Tn) : List Value := [I s.lim, I s.up, I s.down]
section
variable {H : Type} {enc : TypeId × Value → H} {P : Program} {w : World} {base : Nat} {spare : Nat → Bool} {held : Bool}
end
/-- one step's number, wrapped -/
abbrev wr (n : Int) : Int := wrap64 n
def lm (p : Ph) (n : Int) : Int := if (if p.top < n then p.top else n) < p.max then p.max else if p.top < n then p.top else n
def lf (g n : Int) (b : Bool) : Int := if b = true then g else if 9999 < n then 9998 else if 0 < n then n - 1 else 0
def gr (p : Ph) (s : Tn) (b : Bool) : Tn :=
  if b = true then (if s.up < 1 then ⟨lm p s.lim, 1, 0⟩ else ⟨lm p (wr (lm p s.lim + p.step)), 0, 0⟩)
  else (if s.down < 1 then ⟨lm p s.lim, 0, 1⟩ else ⟨lm p (wr (lm p s.lim - p.step)), 0, 0⟩)
end Gap
namespace Gap
open Go.ChangeShapes Go.WideShapes Go.ChangeAt Go.RowKit
open Tab Flat TabArg
open May (infoP)
end Gap
namespace Gap
open Go.ChangeShapes Go.WideShapes Go.ChangeAt Go.RowKit
open Tab Flat TabArg
open May (infoP)
end Gap
namespace Ped
open Go.ChangeShapes Go.WideShapes Go.ChangeAt Go.RowKit
open Tab Flat TabArg QL
open May (infoP)
structure Ft where
  st : Int
  tm : Int
deriving DecidableEq
def Ft.cells (s : Ft) : List Value := [I s.st, I s.tm]
section
variable {H : Type} {enc : TypeId × Value → H} {P : Program} {w : World} {base : Nat} {spare : Nat → Bool} {held : Bool}
end
/-- One tick of a signal: k ticks of walk, l of blinks. -/
def ft (k l s t : Int) (b : Bool) : Ft :=
  if s = 1 then (if k ≤ t then ⟨2, 1⟩ else ⟨1, Cnt.more t⟩)
  else if s = 2 then (if l ≤ t then ⟨0, 0⟩ else ⟨2, Cnt.more t⟩)
  else if b = true ∧ 0 < k then ⟨1, 1⟩ else ⟨0, 0⟩
def cu (s t : Int) : Ft := if s = 1 then ⟨2, 1⟩ else ⟨s, t⟩
def idl (s : Int) : Bool := s != 1 && s != 2
end Ped
end Go.Proofs.YtkccepdifgldeaaDoor
