/- Tables as plain data, and how they lie in memory. No program in it. -/
import Derived.Deep.MidRow
import Derived.Below
namespace Go.Proofs.Ytbpfknkbiaplpaa.Tab
open Go Go.RowKit

abbrev I (n : Int) : Value := .int .i64 n
abbrev F (n : Nat) : Value := .float .f64 n
structure Ph where
  on : Bool
  min : Int
  gap : Int
  max : Int
  top : Int
  step : Int
  yellow : Int
  red : Int
  walk : Int
  blinks : Int
  recall : Int
  lock : Bool
  rest : Bool
  deriving DecidableEq, Inhabited
structure Det where
  phase : Int
  on : Nat
  off : Nat
  delay : Nat
  extend : Nat
  maxOn : Int
  maxOff : Int
  deriving DecidableEq, Inhabited
structure Rl where
  bars : Int
  clear : Int
  dwell : Int
  exit : Int
  delay : Int
  green : Int
  foot : Int
  hold : Int
  stay : Int
  most : Int
  limit : Int
  deriving DecidableEq, Inhabited
structure Bs where
  set : Int
  lock : Int
  deriving DecidableEq, Inhabited
structure Tab where
  phases : List Ph
  groups : List (List Int × List Int)
  conflict : List Int
  dets : List Det
  rails : List Rl
  buses : List Bs
  extend : Int
  budget : Int
  start : Int
  revert : Int
  least : Int
  flash : List Int
  window : Int
  share : Int
  deriving DecidableEq, Inhabited

def Ph.cells (p : Ph) : List Value := [.bool p.on, I p.min, I p.gap, I p.max, I p.top, I p.step, I p.yellow, I p.red, I p.walk, I p.blinks, I p.recall, .bool p.lock, .bool p.rest]
def Det.cells (d : Det) : List Value := [I d.phase, F d.on, F d.off, F d.delay, F d.extend, I d.maxOn, I d.maxOff]
def Rl.cells (r : Rl) : List Value := [I r.bars, I r.clear, I r.dwell, I r.exit, I r.delay, I r.green, I r.foot, I r.hold, I r.stay, I r.most, I r.limit]
def Bs.cells (b : Bs) : List Value := [I b.set, I b.lock]

/-- Where a slice lies, and its capacity. -/
structure Sl where
  a : Option Addr
  cap : Nat
abbrev Sl.val (s : Sl) (n : Nat) : Value := .slice s.a n s.cap

def Lies (w : World) (x : Addr) (cs : List Value) : Prop := ∀ j v, cs[j]? = some v → w.cell? (x.add j) = some v
/-- Under a slice lie the elements l, each of n cells. -/
def RowOf {α : Type} (n : Nat) (enc : α → List Value) (w : World) (s : Sl) (l : List α) : Prop :=
  (s.a = none ∧ s.cap = 0 ∧ l = []) ∨ ∃ x, s.a = some x ∧ l.length ≤ s.cap ∧ s.cap ≤ maxLen ∧ ∀ i v, l[i]? = some v → Lies w (x.add (i * n)) (enc v)
abbrev IntRow (w : World) (s : Sl) (l : List Int) : Prop := RowOf 1 (fun n => [I n]) w s l

theorem add_zero (x : Addr) : x.add 0 = x := by cases x; simp [Addr.add]
theorem add_one (y : Addr) : y.add 1 = ⟨y.block, y.off + 1, none⟩ := by simp [Addr.add]
theorem add_two (x : Addr) (p i : Nat) : (x.add p).add i = x.add (p + i) := by
  unfold Addr.add
  by_cases hp : p = 0
  · subst hp; simp
  · by_cases hi : i = 0
    · subst hi; simp
    · simp [hp, hi, show ¬ (p + i = 0) by omega, Nat.add_assoc]
theorem Lies.below {w w' : World} {x : Addr} {cs : List Value} (h : Lies w x cs) (hb : Below w.heap.size w w') : Lies w' x cs := fun j v hv =>
  (hb.cell (World.block_lt_of_cell? w _ (h j v hv))).trans (h j v hv)
section
variable {α : Type} {n : Nat} {enc : α → List Value} {w w' : World} {s : Sl} {l : List α}
theorem RowOf.below (h : RowOf n enc w s l) (hb : Below w.heap.size w w') : RowOf n enc w' s l := by
  rcases h with h | ⟨x, h1, h2, h3, h4⟩
  · exact .inl h
  · exact .inr ⟨x, h1, h2, h3, fun i v hv => (h4 i v hv).below hb⟩
theorem RowOf.len (h : RowOf n enc w s l) : l.length ≤ s.cap ∧ s.cap ≤ maxLen := by
  rcases h with ⟨_, h1, rfl⟩ | ⟨x, h1, h2, h3, h4⟩
  · rw [h1]; exact ⟨Nat.le_refl _, Nat.zero_le _⟩
  · exact ⟨h2, h3⟩
theorem RowOf.at (h : RowOf n enc w s l) {i : Nat} {v : α} (hv : l[i]? = some v) : ∃ x, s.a = some x ∧ Lies w (x.add (i * n)) (enc v) := by
  rcases h with ⟨_, _, rfl⟩ | ⟨x, h1, h2, h3, h4⟩
  · simp at hv
  · exact ⟨x, h1, h4 i v hv⟩
theorem RowOf.nil (w : World) : RowOf n enc w ⟨none, 0⟩ [] := .inl ⟨rfl, rfl, rfl⟩
theorem IntRow.at {s : Sl} {l : List Int} (h : IntRow w s l) {i : Nat} {v : Int} (hv : l[i]? = some v) : ∃ x, s.a = some x ∧ w.cell? (x.add i) = some (I v) := by
  obtain ⟨x, hx, hl⟩ := RowOf.at h hv
  have := hl 0 _ rfl
  rw [Nat.mul_one, add_two, Nat.add_zero] at this
  exact ⟨x, hx, this⟩
end

/-- A group's rows, and where they lie. -/
structure Gr where
  r0 : List Int
  r1 : List Int
  s0 : Sl
  s1 : Sl
def Gr.cells (g : Gr) : List Value := [g.s0.val g.r0.length, g.s1.val g.r1.length]
def Gr.ok (w : World) (g : Gr) : Prop := IntRow w g.s0 g.r0 ∧ IntRow w g.s1 g.r1
def Gr.data (g : Gr) : List Int × List Int := (g.r0, g.r1)
def GroupsLie (w : World) (s : Sl) (gs : List Gr) : Prop := RowOf 2 Gr.cells w s gs ∧ ∀ g ∈ gs, g.ok w
theorem Gr.ok.below {w w' : World} {g : Gr} (h : g.ok w) (hb : Below w.heap.size w w') : g.ok w' := ⟨h.1.below hb, h.2.below hb⟩
theorem GroupsLie.below {w w' : World} {s : Sl} {gs : List Gr} (h : GroupsLie w s gs) (hb : Below w.heap.size w w') : GroupsLie w' s gs := ⟨h.1.below hb, fun g hg => (h.2 g hg).below hb⟩

theorem Ph.one (p : Ph) : p.cells.toArray.all (·.oneCell') = true := by simp [Ph.cells, Value.oneCell']
theorem Det.one (d : Det) : d.cells.toArray.all (·.oneCell') = true := by simp [Det.cells, Value.oneCell']
theorem Rl.one (r : Rl) : r.cells.toArray.all (·.oneCell') = true := by simp [Rl.cells, Value.oneCell']
theorem Bs.one (b : Bs) : b.cells.toArray.all (·.oneCell') = true := by simp [Bs.cells, Value.oneCell']
theorem Gr.one (g : Gr) : g.cells.toArray.all (·.oneCell') = true := by simp [Gr.cells, Value.oneCell']

/-- Where a table's four lists lie. -/
structure Hd where
  g : Sl
  d : Sl
  r : Sl
  b : Sl
def Tab.cells (T : Tab) (h : Hd) : List Value :=
  T.phases.flatMap Ph.cells ++ (h.g.val T.groups.length :: (T.conflict.map I ++ (h.d.val T.dets.length :: h.r.val T.rails.length :: h.b.val T.buses.length :: I T.extend :: I T.budget :: I T.start :: I T.revert :: I T.least ::
    (T.flash.map I ++ [I T.window, I T.share]))))
/-- A table's lists lie in memory as it says. -/
structure IsTab (w : World) (h : Hd) (T : Tab) : Prop where
  ph : T.phases.length = 8
  cf : T.conflict.length = 8
  fl : T.flash.length = 8
  groups : ∃ gs : List Gr, gs.map Gr.data = T.groups ∧ GroupsLie w h.g gs
  dets : RowOf 7 Det.cells w h.d T.dets
  rails : RowOf 11 Rl.cells w h.r T.rails
  buses : RowOf 2 Bs.cells w h.b T.buses
theorem IsTab.below {w w' : World} {h : Hd} {T : Tab} (k : IsTab w h T) (hb : Below w.heap.size w w') : IsTab w' h T :=
  ⟨k.ph, k.cf, k.fl, let ⟨gs, h1, h2⟩ := k.groups; ⟨gs, h1, h2.below hb⟩, k.dets.below hb, k.rails.below hb, k.buses.below hb⟩

theorem eight {α : Type} {l : List α} (h : l.length = 8) : ∃ a0 a1 a2 a3 a4 a5 a6 a7, l = [a0, a1, a2, a3, a4, a5, a6, a7] := by
  match l, h with
  | [a0, a1, a2, a3, a4, a5, a6, a7], _ => exact ⟨a0, a1, a2, a3, a4, a5, a6, a7, rfl⟩

/-- What stands where in a table's cells. -/
structure CellsOk (T : Tab) (h : Hd) (cs : Array Value) : Prop where
  size : cs.size = 131
  one : cs.all (·.oneCell') = true
  g : cs[104]? = some (h.g.val T.groups.length)
  d : cs[113]? = some (h.d.val T.dets.length)
  r : cs[114]? = some (h.r.val T.rails.length)
  b : cs[115]? = some (h.b.val T.buses.length)
  extend : cs[116]? = some (I T.extend)
  budget : cs[117]? = some (I T.budget)
  start : cs[118]? = some (I T.start)
  revert : cs[119]? = some (I T.revert)
  least : cs[120]? = some (I T.least)
  window : cs[129]? = some (I T.window)
  share : cs[130]? = some (I T.share)
  phases : cs.toList.take 104 = T.phases.flatMap Ph.cells
  conflict : (cs.toList.drop 105).take 8 = T.conflict.map I
  flash : (cs.toList.drop 121).take 8 = T.flash.map I
  phase : ∀ i p, T.phases[i]? = some p → (cs.toList.drop (13 * i)).take 13 = p.cells
set_option maxRecDepth 10000 in
theorem cells_ok {w : World} {h : Hd} {T : Tab} (k : IsTab w h T) : CellsOk T h (T.cells h).toArray := by
  obtain ⟨p0, p1, p2, p3, p4, p5, p6, p7, hp⟩ := eight k.ph
  obtain ⟨c0, c1, c2, c3, c4, c5, c6, c7, hc⟩ := eight k.cf
  obtain ⟨f0, f1, f2, f3, f4, f5, f6, f7, hf⟩ := eight k.fl
  clear k
  obtain ⟨phases, groups, conflict, dets, rails, buses, extend, budget, start, revert, least, flash, window, share⟩ := T
  simp only at hp hc hf
  subst hp hc hf
  constructor
  all_goals try rfl
  case one => simp [Tab.cells, Ph.cells, Value.oneCell']
  intro i p hp
  match i, hp with
  | 0, hp | 1, hp | 2, hp | 3, hp | 4, hp | 5, hp | 6, hp | 7, hp => 
    obtain rfl := Option.some.inj hp
    rfl
  | i + 8, hp => cases hp
theorem phases_len {l : List Ph} : (l.flatMap Ph.cells).length = 13 * l.length := by
  induction l with
  | nil => rfl
  | cons p l ih => rw [List.flatMap_cons, List.length_append, ih, List.length_cons]; simp [Ph.cells]; omega
theorem phases_inj : ∀ {l m : List Ph}, l.flatMap Ph.cells = m.flatMap Ph.cells → l = m
  | [], [], _ => rfl
  | [], q :: m, h => by simp [Ph.cells] at h
  | p :: l, [], h => by simp [Ph.cells] at h
  | p :: l, q :: m, h => by
    rw [List.flatMap_cons, List.flatMap_cons] at h
    obtain ⟨h1, h2⟩ := List.append_inj h (by simp [Ph.cells])
    rw [phases_inj h2]
    obtain ⟨⟩ := p
    obtain ⟨⟩ := q
    simp [Ph.cells] at h1
    simp [h1]
theorem ints_inj : ∀ {l m : List Int}, l.map I = m.map I → l = m
  | [], [], _ => rfl
  | [], _ :: _, h => by simp at h
  | _ :: _, [], h => by simp at h
  | a :: l, b :: m, h => by
    simp only [List.map_cons, List.cons.injEq, Value.int.injEq, true_and] at h
    rw [h.1, ints_inj h.2]
/-- A block's part, out of what is known of its cells. -/
theorem range_of {w : World} {b : Nat} {C : Array Value} {t : TypeId} {fr : Nat × Nat} (hb : w.heap[b]? = some (.cells C t fr)) (o n : Nat) (cs : List Value) (h : (C.toList.drop o).take n = cs) : w.rangeAt b o cs := by
  subst h
  have h1 := World.rangeAt_of_block hb o n
  rwa [Array.toList_extract, List.extract, Nat.add_sub_cancel_left] at h1
end Go.Proofs.Ytbpfknkbiaplpaa.Tab
