/- 16 texts in one file, in build order. -/
import Derived.Test.YtldmmobgmfllkaaRows
import Derived.Test.YtldmmobgmfllkaaPart01
import Derived.Deep.Cut
import Derived.OwnWalk
import Derived.Laws.CopyOwn
import Derived.LoopTactic
import Derived.StillTail
import Derived.Below
import Derived.Laws.BitsLemmas
import Derived.WalkKit
import Derived.ProofKit
import Derived.IntWalk
import Derived.Lib.Hide
import Derived.BigQuiet
import Derived.Deep.QuietTactic
import Derived.Great.BuildSlice
import Derived.StillTailTactics
set_option linter.unusedVariables false
set_option linter.unusedSimpArgs false
set_option linter.unusedSectionVars false
set_option maxHeartbeats 8000000
set_option maxRecDepth 100000
namespace Go.Proofs.Ytldmmobgmfllkaa
namespace May
open Go.ChangeShapes Go.WideShapes Go.ChangeAt Go.RowKit
open Tab
/-- Phases that lie at a block's head, as a row. -/
theorem phases_in {w : World} {g : Nat} {cs : Array Value} {t : TypeId} {fr : Nat × Nat} {T : Tab} {h : Hd} (hg : w.heap[g]? = some (.cells cs t fr)) (C : CellsOk T h cs) (hn : T.phases.length = 8) :
    RowOf 13 Ph.cells w ⟨some ⟨g, 0, none⟩, 8⟩ T.phases := by
  refine .inr ⟨_, rfl, by rw [hn]; exact Nat.le_refl _, (show 8 ≤ maxLen by decide), fun i v hv j u hu => ?_⟩
  rw [add_two, Addr.add_mid, Nat.zero_add, Nat.mul_comm]
  exact range_of hg (13 * i) 13 _ (C.phase i v hv) j u hu
/-- What a walk over a boxed table holds on to. -/
structure St (w : World) (N : Nat) (cs : Array Value) (h : Hd) (T : Tab) (W : World) : Prop where
  bel : Below w.heap.size w W
  blk : W.heap[N]? = some (.cells cs 43 (0, 0))
  tab : IsTab W h T
  le : w.heap.size ≤ N
theorem St.step {w W W' : World} {N : Nat} {cs : Array Value} {h : Hd} {T : Tab} (k : St w N cs h T W) (hb : Below W.heap.size W W') : St w N cs h T W' :=
  ⟨chain k.bel hb, by rw [hb.block N (Array.getElem?_eq_some_iff.1 k.blk).1]; exact k.blk, k.tab.below hb, k.le⟩
theorem St.cell {w W : World} {N : Nat} {cs : Array Value} {h : Hd} {T : Tab} (k : St w N cs h T W) {o : Nat} {v : Value} (hv : cs[o]? = some v) : W.cell? ⟨N, o, none⟩ = some v := by
  rw [cell_of_row _ _ _ _ _ _ k.blk]; exact hv
theorem St.box {w : World} {cs : Array Value} {h : Hd} {T : Tab} (k : IsTab w h T) : St w w.heap.size cs h T (w.alloc (.cells cs 43)) :=
  ⟨(Below.refl _ _).alloc (Nat.le_refl _) _, heap_alloc_new _ _, k.below ((Below.refl _ _).alloc (Nat.le_refl _) _), Nat.le_refl _⟩
end May
namespace May
open Go.ChangeShapes Go.WideShapes Go.ChangeAt Go.RowKit
open Tab
def GAll (l : List Gr) : Prop := l.all (fun v => groupMay v.data) = true
theorem GAll.step {l : List Gr} {k : Nat} {v : Gr} (h : l[k]? = some v) (hk : GAll (l.take k)) (hv : groupMay v.data = true) : GAll (l.take (k + 1)) := all_step (f := fun v : Gr => groupMay v.data) h hk hv
theorem infoT : (Try.prog.info? 43).map (·.size) = some 131 := by kernel_rfl
end May
namespace Copy
open Go Go.RowKit
open Tab
section
variable {P : Program}
end
/-! ### a list's elements as one row -/
section
variable {α : Type} {n : Nat} {enc : α → List Value}
end
end Copy
namespace Clone
open Go.ChangeShapes Go.WideShapes Go.ChangeAt Go.RowKit
open Tab Copy
open May (chain infoP infoG infoD infoR infoB)
end Clone
namespace Owned
open Go Go.RowKit
open Tab Copy
structure Blk where
  at_ : Nat
  cells : List Value
  type : TypeId
def Own (B : Nat) (w : World) (L : List Blk) : Prop := (L.map Blk.at_).Nodup ∧ ∀ x ∈ L, B ≤ x.at_ ∧ w.heap[x.at_]? = some (.cells x.cells.toArray x.type (0, 0))
variable {B : Nat} {w w' : World} {L M : List Blk} {x : Blk}
theorem Own.nil : Own B w [] := ⟨by simp, fun x h => by simp at h⟩
theorem Own.get (h : Own B w L) (hx : x ∈ L) : w.heap[x.at_]? = some (.cells x.cells.toArray x.type (0, 0)) := (h.2 x hx).2
theorem Own.base (h : Own B w L) (hx : x ∈ L) : B ≤ x.at_ := (h.2 x hx).1
theorem Own.lt (h : Own B w L) (hx : x ∈ L) : x.at_ < w.heap.size := (Array.getElem?_eq_some_iff.1 (h.get hx)).1
theorem Own.step (h : Own B w L) (hb : Below w.heap.size w w') : Own B w' L := ⟨h.1, fun x hx => ⟨h.base hx, by rw [hb.block _ (h.lt hx)]; exact h.get hx⟩⟩
/-- A new block. -/
theorem Own.add (h : Own B w L) (hb : Below w.heap.size w w') {g : Nat} {cs : List Value} {t : TypeId} (hg : w'.heap[g]? = some (.cells cs.toArray t (0, 0))) (hn : w.heap.size ≤ g) (hB : B ≤ w.heap.size) : Own B w' (⟨g, cs, t⟩ :: L) := by
  refine ⟨List.nodup_cons.2 ⟨fun hm => ?_, h.1⟩, fun y hy => ?_⟩
  · obtain ⟨y, hy, e⟩ := List.mem_map.1 hm
    have := h.lt hy
    have e' : y.at_ = g := e
    omega
  · rcases List.mem_cons.1 hy with rfl | hy
    · exact ⟨Nat.le_trans hB hn, hg⟩
    · exact (h.step hb).2 y hy
/-- The first block is written. -/
theorem Own.write (h : Own B w (x :: L)) {cs : List Value} (hg : w'.heap[x.at_]? = some (.cells cs.toArray x.type (0, 0))) (ho : ∀ j, j ≠ x.at_ → w'.heap[j]? = w.heap[j]?) : Own B w' (⟨x.at_, cs, x.type⟩ :: L) := by
  have hx := (List.nodup_cons.1 h.1).1
  refine ⟨List.nodup_cons.2 ⟨hx, (List.nodup_cons.1 h.1).2⟩, fun y hy => ?_⟩
  rcases List.mem_cons.1 hy with rfl | hy
  · exact ⟨(h.base (x := x) (List.mem_cons_self ..) : B ≤ x.at_), hg⟩
  · have hne : y.at_ ≠ x.at_ := fun e => hx (List.mem_map.2 ⟨y, hy, e⟩)
    exact ⟨h.base (List.mem_cons_of_mem _ hy), by rw [ho _ hne]; exact h.get (List.mem_cons_of_mem _ hy)⟩
theorem Own.cell (h : Own B w L) (hx : x ∈ L) (i : Nat) : w.cell? ⟨x.at_, i, none⟩ = x.cells[i]? := by
  rw [cell_of_row _ _ _ _ _ _ (h.get hx)]; simp
theorem Own.frozen (h : Own B w L) (hx : x ∈ L) (i : Nat) : w.frozen? ⟨x.at_, i, none⟩ = false := frozen_of_row _ _ _ _ _ (h.get hx)
/-- What is below B stays as it is when one's own is written. -/
theorem below_write {a : World} (hb : Below B a w) {g i : Nat} (hg : B ≤ g) (v : Value) : Below B a (w.setCell ⟨g, i, none⟩ v) := hb.setCell (p := ⟨g, i, none⟩) hg v
end Owned
namespace Clone
open Go.ChangeShapes Go.WideShapes Go.ChangeAt Go.RowKit
open Tab Copy Owned
open May (chain infoP infoG infoD infoR infoB infoT)
/-- A group whose rows are blocks of their own. -/
structure NG where
  r0 : List Int
  r1 : List Int
  b0 : Nat
  b1 : Nat
def NG.gr (g : NG) : Gr := ⟨g.r0, g.r1, ⟨some ⟨g.b0, 0, none⟩, g.r0.length⟩, ⟨some ⟨g.b1, 0, none⟩, g.r1.length⟩⟩
def NG.blks (g : NG) : List Blk := [⟨g.b0, g.r0.flatMap (fun n => [I n]), 3⟩, ⟨g.b1, g.r1.flatMap (fun n => [I n]), 3⟩]
abbrev at0 (g n : Nat) : Sl := ⟨some ⟨g, 0, none⟩, n⟩
/-- Where a clone's parts lie. -/
def own (T : Tab) (ns : List NG) (G D R S : Nat) : List Blk :=
  ⟨G, (ns.map NG.gr).flatMap Gr.cells, 69⟩ :: ⟨D, T.dets.flatMap Det.cells, 58⟩ :: ⟨R, T.rails.flatMap Rl.cells, 61⟩ :: ⟨S, T.buses.flatMap Bs.cells, 65⟩ :: ns.flatMap NG.blks
def hd (T : Tab) (G D R S : Nat) : Hd := ⟨at0 G T.groups.length, at0 D T.dets.length, at0 R T.rails.length, at0 S T.buses.length⟩
section
variable {T : Tab} {ns : List NG} {G D R S : Nat}
end
/-! ### a table's cells, with a list moved -/
structure Eights (T : Tab) : Prop where
  p : T.phases.length = 8
  c : T.conflict.length = 8
  f : T.flash.length = 8
theorem Eights.tab {T : Tab} (k : Eights T) (h : Hd) (w : World) : CellsOk T h (T.cells h).toArray := by
  have h0 : IsTab w ⟨⟨none, 0⟩, ⟨none, 0⟩, ⟨none, 0⟩, ⟨none, 0⟩⟩ { T with groups := [], dets := [], rails := [], buses := [] } :=
    ⟨k.p, k.c, k.f, ⟨[], rfl, RowOf.nil w, fun g hg => by simp at hg⟩, RowOf.nil w, RowOf.nil w, RowOf.nil w⟩
  have := cells_ok h0
  obtain ⟨p0, p1, p2, p3, p4, p5, p6, p7, hp⟩ := eight k.p
  obtain ⟨c0, c1, c2, c3, c4, c5, c6, c7, hc⟩ := eight k.c
  obtain ⟨f0, f1, f2, f3, f4, f5, f6, f7, hf⟩ := eight k.f
  clear k
  obtain ⟨phases, groups, conflict, dets, rails, buses, extend, budget, start, revert, least, flash, window, share⟩ := T
  simp only at hp hc hf
  subst hp hc hf
  clear this h0
  constructor
  all_goals try rfl
  case one => simp [Tab.cells, Ph.cells, Value.oneCell']
  intro i p hp
  match i, hp with
  | 0, hp | 1, hp | 2, hp | 3, hp | 4, hp | 5, hp | 6, hp | 7, hp =>
    obtain rfl := Option.some.inj hp
    rfl
  | i + 8, hp => cases hp
/-- The zero table. -/
def zPh : Ph := ⟨false, 0, 0, 0, 0, 0, 0, 0, 0, 0, 0, false, false⟩
def zTab : Tab := ⟨List.replicate 8 zPh, [], List.replicate 8 0, [], [], [], 0, 0, 0, 0, 0, List.replicate 8 0, 0, 0⟩
def zHd : Hd := ⟨⟨none, 0⟩, ⟨none, 0⟩, ⟨none, 0⟩, ⟨none, 0⟩⟩
end Clone
namespace Clone
open Go.ChangeShapes Go.WideShapes Go.ChangeAt Go.RowKit
open Tab Copy Owned
open May (chain infoP infoG infoD infoR infoB infoT take_succ')
/-- The phases of the region that fills one group. -/
def D5 (w : World) (B M : Nat) (L0 L1 L2 L3 : List Blk) (q : Nat) (w' : World) : Prop :=
  Below B w w' ∧ match q with
    | 0 => Owned.Own B w' L0 ∧ w'.heap.size = M + 1
    | 1 => Owned.Own B w' L1 ∧ w'.heap.size = M + 1 + 1
    | 2 => Owned.Own B w' L2 ∧ w'.heap.size = M + 1 + 1 + 1
    | _ => Owned.Own B w' L3
theorem D5.get {w w' : World} {B M q : Nat} {L0 L1 L2 L3 : List Blk} {x : Blk} (h : D5 w B M L0 L1 L2 L3 q w') (h0 : x ∈ L0) (h1 : x ∈ L1) (h2 : x ∈ L2) (h3 : x ∈ L3) : w'.heap[x.at_]? = some (.cells x.cells.toArray x.type (0, 0)) := by
  match q, h with
  | 0, ⟨_, h, _⟩ => exact h.get h0
  | 1, ⟨_, h, _⟩ => exact h.get h1
  | 2, ⟨_, h, _⟩ => exact h.get h2
  | _ + 3, ⟨_, h⟩ => exact h.get h3
end Clone
namespace QT
open Go Go.RowKit
section
variable {P : Program} {ops : Array Oper} {md : Region.Mode} {C : World → Prop} {m n : Nat}
/-- Nothing of the end comes up ahead of the head: each of the head is waited for by a later one, at the latest by number n. -/
def sinks (md : Region.Mode) (ops : Array Oper) (m n : Nat) : Bool := (List.range n).all fun i => decide (i < m) || (List.range (n + 1)).any fun j => decide (i < j) && Region.waitsFor md ops j i
/-- The first m wait for none but the first m. -/
def shut (md : Region.Mode) (ops : Array Oper) (m : Nat) : Bool := (List.range m).all fun j => match ops[j]? with | some o => o.after.all fun e => !Region.binds md e || decide (e.on < m) | none => true
def begun (ops : Array Oper) (m : Nat) : Array Bool := Array.replicate m true ++ Array.replicate (ops.size - m) false
/-- What has come up: the first m, and what it waits for. -/
structure Inv (md : Region.Mode) (ops : Array Oper) (m n : Nat) (L : Array Bool) : Prop where
  size : L.size = ops.size
  first : ∀ j, j < m → L.getD j false = true
  back : ∀ j o, ops[j]? = some o → L.getD j false = true → ∀ e ∈ o.after, Region.binds md e = true → L.getD e.on false = true
  rest : ∀ t, n ≤ t → t < ops.size → L.getD t true = false
theorem Inv.set {i : Nat} {L : Array Bool} (h : Inv md ops m n L) (hi : i ∈ Region.ready md ops L) (hn : i < n) : Inv md ops m n (L.setIfInBounds i true) := by
  obtain ⟨_, oi, hoi, hall⟩ := mem_ready.1 hi
  refine ⟨by simp [h.size], fun j hj => getD_set_true (h.first j hj), fun j o hj hl e he hb => ?_, fun t h1 h2 => (getD_set_ne true (by omega)).trans (h.rest t h1 h2)⟩
  rcases Nat.decEq i j with hij | hij
  · rw [getD_set_ne false hij] at hl
    exact getD_set_true (h.back j o hj hl e he hb)
  · subst hij
    obtain rfl : o = oi := Option.some.inj (hj.symm.trans hoi)
    exact getD_set_true (hall e he hb)
/-- As long as one of the head has not come up, none of the end is ready. -/
theorem later {L : Array Bool} (hs : sinks md ops m n = true) (hc : Region.chainB md ops n = true) (hn : n < ops.size) (h : Inv md ops m n L) :
    ∀ (d i : Nat), n - i ≤ d → i < n → L.getD i true = false → ∀ t ∈ Region.ready md ops L, t < n
  | 0, i, hd, hi, _, _, _ => by omega
  | d + 1, i, hd, hi, hun, t, ht => by
    rcases Nat.lt_or_ge t n with hlt | hge
    · exact hlt
    exfalso
    obtain ⟨_, ot, hot, hall⟩ := mem_ready.1 ht
    have htl : t < ops.size := (Array.getElem?_eq_some_iff.1 hot).1
    rcases Nat.eq_or_lt_of_le hge with rfl | hgt
    · have h1 := List.all_eq_true.1 hs i (List.mem_range.2 hi)
      have hm : ¬ i < m := fun hm => by have := getD_both hun; rw [h.first i hm] at this; cases this
      rw [decide_eq_false hm, Bool.false_or] at h1
      obtain ⟨j, hj, hj2⟩ := List.any_eq_true.1 h1
      simp only [Bool.and_eq_true, decide_eq_true_eq] at hj2
      obtain ⟨oj, hoj, e, he, hb, hon⟩ := Region.waitsFor_spec hj2.2
      have hjl := List.mem_range.1 hj
      have hno : L.getD e.on false = false := by rw [hon]; exact getD_both hun
      by_cases hjt : j = n
      · subst hjt
        obtain rfl : oj = ot := Option.some.inj (hoj.symm.trans hot)
        rw [hall e he hb] at hno
        cases hno
      · cases hl : L.getD j false with
        | true => rw [h.back j oj hoj hl e he hb] at hno; cases hno
        | false => exact absurd (later hs hc hn h d j (by omega) (by omega) (getD_in (by rw [h.size]; omega) hl) n ht) (by omega)
    · have h1 := List.all_eq_true.1 hc t (List.mem_range.2 htl)
      simp only [Bool.or_eq_true, decide_eq_true_eq] at h1
      obtain ⟨o', ho', e, he, hb, hon⟩ := Region.waitsFor_spec (h1.resolve_left (by omega))
      obtain rfl : o' = ot := Option.some.inj (ho'.symm.trans hot)
      have h2 := hall e he hb
      rw [hon, getD_both (h.rest (t - 1) (by omega) (by omega))] at h2
      cases h2
/-- Whatever of the head comes up next. -/
def anyT (P : Program) (md : Region.Mode) (ops : Array Oper) (C : World → Prop) (n : Nat) (E : Array Bool → Act → Prop) : Nat → Array Bool → Act → Prop
  | 0, L, a => E L a
  | f + 1, L, a => Region.ready md ops L ≠ [] ∧ ∀ i ∈ Region.ready md ops L, i < n ∧ qOp P ops C i (anyT P md ops C n E f (L.setIfInBounds i true)) a
theorem wpAny_of {g : Nat} {E : Array Bool → Act → Prop} {Q : Exit → Act → World → Prop} (hE : ∀ L a w, C w → E L a → wpAny P md ops Q g L a w) : ∀ (f : Nat) (L : Array Bool) (a : Act) (w : World), C w → anyT P md ops C n E f L a → wpAny P md ops Q (f + g) L a w
  | 0, L, a, w, hw, h => by rw [Nat.zero_add]; exact hE _ _ _ hw h
  | f + 1, L, a, w, hw, h => by
    rw [Nat.add_right_comm]
    exact ⟨fun h0 => absurd h0 h.1, fun i hi => wpOp_of_qOp hw (fun a' w' hw' h' => wpAny_of hE f _ a' w' hw' h') (h.2 i hi).2⟩
theorem one {i : Nat} {oi : Oper} {v : Value} {E : Array Bool → Act → Prop} (hi : ops[i]? = some oi) (hsel : ∀ (j : Nat) (o : Oper) cs b, ops[j]? = some o → o.op ≠ .select cs b)
    (hs : sinks md ops m n = true) (hc : Region.chainB md ops n = true) (hn : n < ops.size) (hin : i < n) (hE : ∀ L a, E L a → ∀ j ∈ Region.ready md ops L, n ≤ j) : ∀ (f : Nat) (L : Array Bool) (a : Act), Inv md ops m n L →
      (∀ j oj, ops[j]? = some oj → j ≠ i → L.getD j true = false → (∀ e ∈ oj.after, Region.binds md e = true → e.on ≠ i) → oi.apart ops oj = true) →
      i ∈ Region.ready md ops L → YieldsIn P ops C oi v a → anyT P md ops C n E f (L.setIfInBounds i true) (a.put oi.dst v) → anyT P md ops C n E (f + 1) L a := by
  intro f
  induction f with
  | zero =>
    intro L a inv _ hr hy H
    refine ⟨List.ne_nil_of_mem hr, fun j hj => ?_⟩
    have hjn := later hs hc hn inv _ i (Nat.le_refl _) hin (mem_ready.1 hr).1 j hj
    refine ⟨hjn, ?_⟩
    rcases Nat.decEq j i with hji | rfl
    · exact absurd (hE _ _ H j (ready_mono hj hji)) (by omega)
    · exact hy.qOp hi H
  | succ f ih =>
    intro L a inv hfree hr hy H
    refine ⟨List.ne_nil_of_mem hr, fun j hj => ?_⟩
    have hjn := later hs hc hn inv _ i (Nat.le_refl _) hin (mem_ready.1 hr).1 j hj
    refine ⟨hjn, ?_⟩
    rcases Nat.decEq j i with hji | rfl
    · obtain ⟨hjun, oj, hoj, hall⟩ := mem_ready.1 hj
      have hno : ∀ e ∈ oj.after, Region.binds md e = true → e.on ≠ i := fun e he hb heq => by
        have h1 := hall e he hb
        rw [heq, getD_both (mem_ready.1 hr).1] at h1
        cases h1
      refine qOp_mono (fun a' h3 => ih (L.setIfInBounds j true) a' (inv.set hj hjn) (fun k ok hk hki hun hnk => ?_) (ready_mono hr (Ne.symm hji)) h3.1 ?_)
        (qOp_put hoj (hfree j oj hoj hji hjun hno) (fun cs b => hsel i oi cs b hi) (fun cs b => hsel j oj cs b hoj) hy (H.2 j (ready_mono hj hji)).2)
      · refine hfree k ok hk hki ?_ hnk
        rcases Nat.decEq j k with hjk | rfl
        · rwa [getD_set_ne true hjk] at hun
        · exact hjun
      · rw [Array.setIfInBounds_comm _ _ hji]
        exact h3.2
    · exact hy.qOp hi H
theorem lex {g : Nat} {E : Act → Prop} (hsel : Region.noSelect ops = true) (hs : sinks md ops m n = true) (hc : Region.chainB md ops n = true) (hn : n < ops.size) : ∀ (l : List Oper) (k : Nat) (L : Array Bool) (a : Act), (∀ j, j < l.length → l[j]? = ops[k + j]?) → k + l.length = n → Inv md ops m n L →
    Region.lexHead md ops g l.length k L = true → wpQuiet P ops C E l a → anyT P md ops C n (fun L' a' => Region.seqB md ops g n L' = true ∧ E a') l.length L a
  | [], k, L, a, _, hk, _, hB, h => by
    obtain rfl : k = n := hk
    exact ⟨hB, h⟩
  | o :: l, k, L, a, hl, hk, inv, hB, h => by
    have h0 : ops[k]? = some o := (hl 0 (Nat.zero_lt_succ _)).symm
    simp only [List.length_cons, Region.lexHead, Bool.and_eq_true] at hB hk
    obtain ⟨⟨hr, hf⟩, hB'⟩ := hB
    have hr' : k ∈ Region.ready md ops L := List.contains_iff_mem.1 hr
    have hst : qOp P ops C k (wpQuiet P ops C E l) a := by unfold qOp; rw [h0]; exact h
    obtain ⟨v, hy, hK⟩ := yieldsIn_of_qOp h0 hst
    refine one h0 (Region.noSelect_spec hsel) hs hc hn (by omega) (fun L' a' hL => seqB_ready hL.1) l.length L a inv (Region.free_spec h0 hf) hr' hy (lex hsel hs hc hn l (k + 1) _ _ (fun j hj => ?_) (by omega) (inv.set hr' (by omega)) hB' hK)
    have := hl (j + 1) (Nat.succ_lt_succ hj)
    rwa [show k + (j + 1) = k + 1 + j by omega] at this
theorem getD_begun {m j : Nat} (hm : m ≤ ops.size) (d : Bool) (hj : j < ops.size) : (begun ops m).getD j d = decide (j < m) := by
  have hsz : (begun ops m).size = ops.size := by simp [begun]; omega
  have h1 : (begun ops m)[j]? = some (decide (j < m)) := by
    unfold begun
    rw [Array.getElem?_append]
    split <;> rename_i h
    · simp at h; simp [h]
    · simp at h
      have hr : (Array.replicate (ops.size - m) false)[j - m]? = some false := by rw [Array.getElem?_replicate]; simp; omega
      simp only [Array.size_replicate]
      rw [hr]
      simp; omega
  rw [Array.getD_eq_getD_getElem?, h1]
  rfl
theorem inv_begun (hm : m ≤ n) (hn : n < ops.size) (hh : shut md ops m = true) : Inv md ops m n (begun ops m) := by
  have hsz : (begun ops m).size = ops.size := by simp [begun]; omega
  refine ⟨hsz, fun j hj => by rw [getD_begun (by omega) _ (by omega)]; simpa using hj, fun j o hj hl e he hb => ?_, fun t h1 h2 => by rw [getD_begun (by omega) _ h2]; simp; omega⟩
  have hjs : j < ops.size := (Array.getElem?_eq_some_iff.1 hj).1
  rw [getD_begun (by omega) _ hjs, decide_eq_true_eq] at hl
  have h1 := List.all_eq_true.1 hh j (List.mem_range.2 hl)
  simp only [hj] at h1
  have h2 := Array.all_eq_true_iff_forall_mem.1 h1 e he
  simp only [hb, Bool.not_true, Bool.false_or, decide_eq_true_eq] at h2
  rw [getD_begun (by omega) _ (by omega)]
  simpa using h2
def okB (md : Region.Mode) (ops : Array Oper) (m n : Nat) : Bool :=
  Region.noSelect ops && decide (n < ops.size) && decide (m ≤ n) && shut md ops m && sinks md ops m n && Region.chainB md ops n && Region.lexHead md ops (ops.size - n) (n - m) m (begun ops m)
/-- Behind the first m. -/
theorem behind {Q : Exit → Act → World → Prop} {a : Act} {w : World} {l : List Oper} (hB : okB md l.toArray m n = true) (hC : C w)
    (h : wpQuiet P l.toArray C (fun a' => ∀ w', C w' → wpList P l.toArray Q (l.drop n) a' w') ((l.take n).drop m) a) : wpAny P md l.toArray Q (l.length - m) (begun l.toArray m) a w := by
  simp only [okB, Bool.and_eq_true, decide_eq_true_eq] at hB
  obtain ⟨⟨⟨⟨⟨⟨hsel, hn⟩, hm⟩, hh⟩, hs⟩, hc⟩, hlex⟩ := hB
  have hn' : n < l.length := by simpa using hn
  have htl : ((l.take n).drop m).length = n - m := by simp; omega
  have hdl : (l.drop n).length = l.toArray.size - n := by simp
  have H := lex (md := md) (g := l.toArray.size - n) hsel hs hc hn ((l.take n).drop m) m _ a (fun j hj => by
    rw [htl] at hj
    rw [List.getElem?_drop, List.getElem?_take, if_pos (by omega)]
    simp) (by rw [htl]; omega) (inv_begun hm hn hh) (by rw [htl]; exact hlex) h
  have := wpAny_of (Q := Q) (g := l.toArray.size - n) (fun L a' w' hw' hL => by
    have := wpAny_of_seq (md := md) (Q' := Q) (l.drop n) n L a' w' (fun j => by simp [List.getElem?_drop]) (by rw [hdl]; exact hL.1) (hL.2 w' hw')
    rwa [hdl] at this) _ _ _ _ hC H
  rwa [htl, show n - m + (l.toArray.size - n) = l.length - m by simp; omega] at this
/-- **No pure ones ahead.** -/
theorem region {id : Nat} {Q : Exit → Act → World → Prop} {a : Act} {w : World} {l : List Oper} (B n : Nat) (hm : P.follows .mixedOrders = true) (hB : okB .any l.toArray 0 n = true)
    (h : wpQuiet P l.toArray (fun w' => ∃ p : QB.By B w, w' = p.world) (fun a' => ∀ w', (∃ p : QB.By B w, w' = p.world) → wpList P l.toArray Q (l.drop n) a' w') (l.take n) a) : (Code.region id l.toArray true).wp P Q a w := by
  have := behind (C := fun w' => ∃ p : QB.By B w, w' = p.world) (w := w.drew) (md := .any) (Q := Q) hB ⟨⟨w.drew, (Below.refl _ _).drew⟩, rfl⟩ (by simpa using h)
  refine wp_region_any hm ?_
  simpa [begun] using this
end
end QT
namespace Arg
open Go Go.RowKit Go.ChangeShapes Tab
section
variable {α : Type} {n : Nat} {f : α → List Value} {w u : World} {s : Sl} {l : List α}
/-- The elements of a slice: one address for all. -/
theorem rows_at (h : RowOf n f w s l) : ∃ x : Addr, (∀ q (hq : q < l.length), s.a = some x ∧ Lies w (x.add (q * n)) (f l[q])) ∧ l.length ≤ s.cap ∧ s.cap ≤ maxLen := by
  obtain ⟨h1, h2⟩ := h.len
  cases hs : s.a with
  | none =>
    refine ⟨⟨0, 0, none⟩, fun q hq => ?_, h1, h2⟩
    obtain ⟨x, e, _⟩ := h.at (List.getElem?_eq_getElem hq)
    rw [hs] at e; cases e
  | some y =>
    refine ⟨y, fun q hq => ?_, h1, h2⟩
    obtain ⟨x, e, k⟩ := h.at (List.getElem?_eq_getElem hq)
    rw [hs] at e
    obtain rfl := Option.some.inj e
    exact ⟨rfl, k⟩
/-- One-cell elements, in a later world. -/
theorem one_below {v : Value} {x : Addr} {q : Nat} (h : Lies w (x.add (q * 1)) [v]) (hb : Below w.heap.size w u) : u.cell? (x.add q) = some v := by
  have := Lies.below h hb 0 v rfl
  rwa [Tab.add_zero, Nat.mul_one] at this
/-- A slice of bools, as a function. -/
theorem bools_at {l : List Bool} (h : RowOf 1 (fun b : Bool => [Value.bool b]) w s l) : ∃ (x : Addr) (z : Nat → Bool), (∀ q, q < l.length → s.a = some x ∧ Lies w (x.add (q * 1)) [.bool (z q)]) ∧ l.length ≤ s.cap ∧ s.cap ≤ maxLen := by
  obtain ⟨x, h0, h1, h2⟩ := rows_at h
  refine ⟨x, fun q => l.getD q false, fun q hq => ?_, h1, h2⟩
  obtain ⟨e, k⟩ := h0 q hq
  refine ⟨e, ?_⟩
  show Lies w _ [Value.bool (l.getD q false)]
  rw [show l.getD q false = l[q] by simp [List.getD, List.getElem?_eq_getElem hq]]
  exact k
end
end Arg
namespace SetM
/-- The lowest eight bits. -/
def low (s : Int) : Nat := (s % 256).toNat
theorem low_lt (s : Int) : low s < 256 := by unfold low; omega
/-- Is p a phase of s? -/
def has (s p : Int) : Bool := decide (0 ≤ p) && (low s).testBit p.toNat
/-- The set of p alone: empty if p is not a phase. -/
def bit (p : Int) : Nat := if 0 ≤ p ∧ p < 8 then 2 ^ p.toNat else 0
def withN (s p : Int) : Nat := low s ||| bit p
theorem toNat_low (s : Int) : (BitVec.ofInt 64 s).toNat % 256 = low s := by
  rw [BitVec.toNat_ofInt]
  unfold low
  show (s % ((18446744073709551616 : Nat) : Int)).toNat % 256 = _
  omega
theorem toNat_ofNat (b : Nat) (h : b < 256) : (BitVec.ofInt 64 (b : Int)).toNat = b := by
  rw [BitVec.toNat_ofInt]
  show ((b : Int) % ((18446744073709551616 : Nat) : Int)).toNat = _
  omega
theorem wrap_small (n : Nat) (h : n < 256) : IntKind.i64.wrap (n : Int) = n := by
  rw [IntKind.wrap_i64]; omega
theorem and_low (s : Int) (b : Nat) (h : b < 256) : bits .and .i64 s (b : Int) = ((low s &&& b : Nat) : Int) := by
  show IntKind.i64.wrap ((BitVec.ofInt 64 s &&& BitVec.ofInt 64 (b : Int)).toNat : Nat) = _
  rw [BitVec.toNat_and, toNat_ofNat b h]
  have h1 : (BitVec.ofInt 64 s).toNat &&& b < 256 := Nat.and_lt_two_pow (n := 8) _ h
  have h2 : ((BitVec.ofInt 64 s).toNat &&& b) % 2 ^ 8 = _ := Nat.and_mod_two_pow
  rw [wrap_small _ h1, ← toNat_low s]
  rw [Nat.mod_eq_of_lt h1, Nat.mod_eq_of_lt (show b < 2 ^ 8 from h)] at h2
  rw [h2]
theorem bit_lt (p : Int) : bit p < 256 := by
  unfold bit
  split
  · rename_i h
    have : 2 ^ p.toNat ≤ 2 ^ 7 := Nat.pow_le_pow_right (by decide) (by omega)
    omega
  · decide
theorem test_high (m k : Nat) (h : m < 256) (hk : 8 ≤ k) : m.testBit k = false :=
  Nat.testBit_lt_two_pow (Nat.lt_of_lt_of_le h (Nat.pow_le_pow_right (n := 2) (by decide) hk : 2 ^ 8 ≤ 2 ^ k))
theorem test_bit (p : Int) (k : Nat) : (bit p).testBit k = decide ((k : Int) = p ∧ k < 8) := by
  unfold bit
  split
  · rename_i h
    rw [Nat.testBit_two_pow]
    rw [Bool.eq_iff_iff, decide_eq_true_iff, decide_eq_true_iff]
    omega
  · rename_i h
    rw [Nat.zero_testBit]
    symm
    rw [decide_eq_false_iff_not]
    omega
theorem has_neg (s p : Int) (h : p < 0) : has s p = false := by unfold has; rw [decide_eq_false (by omega)]; rfl
theorem has_big (s p : Int) (h : 8 ≤ p) : has s p = false := by
  unfold has; rw [test_high _ _ (low_lt s) (by omega), Bool.and_false]
theorem has_nat (s : Int) (k : Nat) : has s k = (low s).testBit k := by unfold has; simp
/-- The document's own way to ask it. -/
theorem has_shr (s : Int) (k : Nat) (h : k < 8) : bits .and .i64 (s / 2 ^ k) 1 = if has s k then 1 else 0 := by
  have h1 := and_low (s / 2 ^ k) 1 (by decide)
  have h2 : low (s / 2 ^ k) &&& 1 = low s / 2 ^ k % 2 := by
    rw [Nat.and_one_is_mod]
    have h3 : k = 0 ∨ k = 1 ∨ k = 2 ∨ k = 3 ∨ k = 4 ∨ k = 5 ∨ k = 6 ∨ k = 7 := by omega
    unfold low
    rcases h3 with rfl | rfl | rfl | rfl | rfl | rfl | rfl | rfl
    all_goals (simp only [Nat.reducePow, Int.reducePow]; omega)
  rw [h2] at h1
  rw [has_nat, Nat.testBit_eq_decide_div_mod_eq]
  rw [show ((1 : Nat) : Int) = 1 from rfl] at h1
  rw [h1]
  have h4 : low s / 2 ^ k % 2 < 2 := Nat.mod_lt _ (by decide)
  split <;> rename_i h5
  · rw [of_decide_eq_true h5]; rfl
  · have : low s / 2 ^ k % 2 = 0 := by simp at h5; omega
    rw [this]; rfl
/-- The phases below k. -/
def upto (s : Int) (k : Nat) : List Int := ((List.range k).filter fun j => (low s).testBit j).map Int.ofNat
def list (s : Int) : List Int := upto s 8
theorem upto_zero (s : Int) : upto s 0 = [] := rfl
theorem upto_hit (s : Int) (k : Nat) (h : has s k = true) : upto s (k + 1) = upto s k ++ [(k : Int)] := by
  rw [has_nat] at h
  unfold upto; rw [List.range_succ, List.filter_append, List.map_append]; simp [h]
theorem upto_miss (s : Int) (k : Nat) (h : has s k = false) : upto s (k + 1) = upto s k := by
  rw [has_nat] at h
  unfold upto; rw [List.range_succ, List.filter_append, List.map_append]; simp [h]
theorem upto_len (s : Int) (k : Nat) : (upto s k).length ≤ k := by
  unfold upto; rw [List.length_map]; have := List.length_filter_le (fun j => (low s).testBit j) (List.range k); simpa using this
theorem list_len (s : Int) : (list s).length ≤ 8 := upto_len s 8
theorem mem_list (s p : Int) : p ∈ list s ↔ has s p = true := by
  unfold list upto
  rw [List.mem_map]
  constructor
  · rintro ⟨j, hj, rfl⟩
    rw [List.mem_filter] at hj
    rw [show Int.ofNat j = (j : Int) from rfl, has_nat]; exact hj.2
  · intro h
    have h0 : 0 ≤ p := by
      by_cases h1 : 0 ≤ p
      · exact h1
      · rw [has_neg s p (by omega)] at h; cases h
    have h8 : p < 8 := by
      by_cases h1 : p < 8
      · exact h1
      · rw [has_big s p (by omega)] at h; cases h
    obtain ⟨k, rfl⟩ := Int.eq_ofNat_of_zero_le h0
    rw [has_nat] at h
    have h9 : k < 8 := by omega
    exact ⟨k, List.mem_filter.2 ⟨List.mem_range.2 h9, h⟩, rfl⟩
theorem list_bd (s p : Int) (h : p ∈ list s) : 0 ≤ p ∧ p < 8 := by
  unfold list upto at h
  obtain ⟨j, hj, rfl⟩ := List.mem_map.1 h
  have := List.mem_range.1 (List.mem_filter.1 hj).1
  rw [show Int.ofNat j = (j : Int) from rfl]
  omega
/-- The set of a list. -/
def of (l : List Int) : Nat := l.foldl (fun m p => m ||| bit p) 0
theorem of_snoc (l : List Int) (p : Int) : of (l ++ [p]) = of l ||| bit p := by unfold of; rw [List.foldl_append]; rfl
theorem fold_lt (l : List Int) (m : Nat) (h : m < 256) : l.foldl (fun m p => m ||| bit p) m < 256 := by
  induction l generalizing m with
  | nil => exact h
  | cons p l ih => exact ih _ (Nat.or_lt_two_pow (n := 8) h (bit_lt p))
theorem of_lt (l : List Int) : of l < 256 := fold_lt l 0 (by decide)
theorem fold_test (l : List Int) (m k : Nat) : (l.foldl (fun m p => m ||| bit p) m).testBit k = (m.testBit k || decide ((k : Int) ∈ l ∧ k < 8)) := by
  induction l generalizing m with
  | nil => simp
  | cons p l ih =>
    rw [List.foldl_cons, ih, Nat.testBit_or, test_bit, Bool.or_assoc]
    congr 1
    rw [Bool.eq_iff_iff, Bool.or_eq_true, decide_eq_true_iff, decide_eq_true_iff, decide_eq_true_iff, List.mem_cons]
    constructor
    · rintro (⟨a, b⟩ | ⟨a, b⟩)
      · exact ⟨.inl a, b⟩
      · exact ⟨.inr a, b⟩
    · rintro ⟨a | a, b⟩
      · exact .inl ⟨a, b⟩
      · exact .inr ⟨a, b⟩
theorem of_test (l : List Int) (k : Nat) : (of l).testBit k = decide ((k : Int) ∈ l ∧ k < 8) := by
  unfold of; rw [fold_test, Nat.zero_testBit, Bool.false_or]
theorem eq_of {m m' : Nat} (h : m < 256) (h' : m' < 256) (e : ∀ k, k < 8 → m.testBit k = m'.testBit k) : m = m' := by
  apply Nat.eq_of_testBit_eq
  intro k
  by_cases hk : k < 8
  · exact e k hk
  · rw [test_high m k h (by omega), test_high m' k h' (by omega)]
/-- The document's own way to make it: phase by phase. -/
def refOf (l : List Int) : Nat → Nat
  | 0 => 0
  | k + 1 => if (k : Int) ∈ l then refOf l k ||| 2 ^ k else refOf l k
theorem refOf_hit (l : List Int) (k : Nat) (h : (k : Int) ∈ l) : refOf l (k + 1) = refOf l k ||| 2 ^ k := by rw [refOf, if_pos h]
theorem refOf_miss (l : List Int) (k : Nat) (h : ¬ (k : Int) ∈ l) : refOf l (k + 1) = refOf l k := by rw [refOf, if_neg h]
theorem refOf_lt (l : List Int) (k : Nat) : refOf l k < 2 ^ k := by
  induction k with
  | zero => exact Nat.one_pos
  | succ k ih =>
    have h1 : refOf l k < 2 ^ (k + 1) := Nat.lt_of_lt_of_le ih (Nat.pow_le_pow_right (by decide) (by omega))
    rw [refOf]
    split
    · exact Nat.or_lt_two_pow h1 (Nat.pow_lt_pow_right (by decide) (by omega))
    · exact h1
theorem refOf_test (l : List Int) (k j : Nat) : (refOf l k).testBit j = decide (j < k ∧ (j : Int) ∈ l) := by
  induction k with
  | zero => simp [refOf]
  | succ k ih =>
    by_cases h : (k : Int) ∈ l
    · rw [refOf_hit l k h, Nat.testBit_or, ih, Nat.testBit_two_pow, Bool.eq_iff_iff, Bool.or_eq_true, decide_eq_true_iff, decide_eq_true_iff, decide_eq_true_iff]
      constructor
      · rintro (⟨a, b⟩ | rfl)
        · exact ⟨by omega, b⟩
        · exact ⟨by omega, h⟩
      · rintro ⟨a, b⟩
        by_cases e : k = j
        · exact .inr e
        · exact .inl ⟨by omega, b⟩
    · rw [refOf_miss l k h, ih, Bool.eq_iff_iff, decide_eq_true_iff, decide_eq_true_iff]
      constructor
      · rintro ⟨a, b⟩
        exact ⟨by omega, b⟩
      · rintro ⟨a, b⟩
        have : j ≠ k := by rintro rfl; exact h b
        exact ⟨by omega, b⟩
theorem refOf_eq (l : List Int) : refOf l 8 = of l := by
  refine eq_of (refOf_lt l 8) (of_lt l) fun k hk => ?_
  rw [refOf_test, of_test, Bool.eq_iff_iff, decide_eq_true_iff, decide_eq_true_iff, and_comm]
theorem list_test (s : Int) (k : Nat) (hk : k < 8) : decide ((k : Int) ∈ list s ∧ k < 8) = (low s).testBit k := by
  rw [Bool.eq_iff_iff, decide_eq_true_iff, mem_list, has_nat]
  exact ⟨fun h => h.1, fun h => ⟨h, hk⟩⟩
theorem of_list (s : Int) : of (list s) = low s := by
  refine eq_of (of_lt _) (low_lt s) fun k hk => ?_
  rw [of_test, list_test s k hk]
theorem of_with (s p : Int) : of (list s ++ [p]) = withN s p := by
  rw [of_snoc, of_list]; rfl
end SetM
namespace RefS
open Go.ChangeShapes Go.WideShapes Go.ChangeAt Go.RowKit
open Go.Proofs.Ytldmmobgmfllkaa
theorem ret_int {k : IntKind} {a b : Int} (h : a = b) : Ending.returned (.int k a) = .returned (.int k b) := by rw [h]
theorem ret_bool {a b : Bool} (h : a = b) : Ending.returned (.bool a) = .returned (.bool b) := by rw [h]
theorem eight {p : Int} (h : 0 ≤ p) (h' : p < 8) : p = 0 ∨ p = 1 ∨ p = 2 ∨ p = 3 ∨ p = 4 ∨ p = 5 ∨ p = 6 ∨ p = 7 := by omega
theorem shr_has (s : Int) (k : Nat) (h : k < 8) : (bits .and .i64 (s / 2 ^ k) 1 == 1) = SetM.has s k := by
  rw [SetM.has_shr s k h]
  cases SetM.has s k <;> rfl
theorem rhas_any (s p : Int) (w : World) : Calls Try.prog 46 #[.int .i64 s, .int .i64 p] w fun e w' => e = .returned (.bool (SetM.has s p)) ∧ w = w' := by
  by_cases h1 : p < 0
  · have HB := Lib.hid (SetM.has_neg s p h1)
    go_enter Try.func46, Try.ntmps46
    go_wp2
    go_ret
    exact ⟨ret_bool HB.out.symm, rfl⟩
  by_cases h2 : 8 ≤ p
  · have HB := Lib.hid (SetM.has_big s p h2)
    go_enter Try.func46, Try.ntmps46
    go_wp2
    go_ret
    exact ⟨ret_bool HB.out.symm, rfl⟩
  rcases eight (p := p) (by omega) (by omega) with rfl | rfl | rfl | rfl | rfl | rfl | rfl | rfl
  · have HB := Lib.hid (show (bits .and .i64 s 1 == 1) = SetM.has s 0 from by have := shr_has s 0 (by decide); simpa using this)
    clear h1 h2
    go_enter Try.func46, Try.ntmps46
    go_wp2
    go_ret
    exact ⟨ret_bool HB.out, rfl⟩
  · have HB := Lib.hid (show (bits .and .i64 (s / 2) 1 == 1) = SetM.has s 1 from shr_has s 1 (by decide))
    clear h1 h2
    go_enter Try.func46, Try.ntmps46
    go_wp2
    go_ret
    exact ⟨ret_bool HB.out, rfl⟩
  · have HB := Lib.hid (show (bits .and .i64 (s / 4) 1 == 1) = SetM.has s 2 from shr_has s 2 (by decide))
    clear h1 h2
    go_enter Try.func46, Try.ntmps46
    go_wp2
    go_ret
    exact ⟨ret_bool HB.out, rfl⟩
  · have HB := Lib.hid (show (bits .and .i64 (s / 8) 1 == 1) = SetM.has s 3 from shr_has s 3 (by decide))
    clear h1 h2
    go_enter Try.func46, Try.ntmps46
    go_wp2
    go_ret
    exact ⟨ret_bool HB.out, rfl⟩
  · have HB := Lib.hid (show (bits .and .i64 (s / 16) 1 == 1) = SetM.has s 4 from shr_has s 4 (by decide))
    clear h1 h2
    go_enter Try.func46, Try.ntmps46
    go_wp2
    go_ret
    exact ⟨ret_bool HB.out, rfl⟩
  · have HB := Lib.hid (show (bits .and .i64 (s / 32) 1 == 1) = SetM.has s 5 from shr_has s 5 (by decide))
    clear h1 h2
    go_enter Try.func46, Try.ntmps46
    go_wp2
    go_ret
    exact ⟨ret_bool HB.out, rfl⟩
  · have HB := Lib.hid (show (bits .and .i64 (s / 64) 1 == 1) = SetM.has s 6 from shr_has s 6 (by decide))
    clear h1 h2
    go_enter Try.func46, Try.ntmps46
    go_wp2
    go_ret
    exact ⟨ret_bool HB.out, rfl⟩
  · have HB := Lib.hid (show (bits .and .i64 (s / 128) 1 == 1) = SetM.has s 7 from shr_has s 7 (by decide))
    clear h1 h2
    go_enter Try.func46, Try.ntmps46
    go_wp2
    go_ret
    exact ⟨ret_bool HB.out, rfl⟩
theorem info3 : (Try.prog.info? 3).map (fun i => (i.zero, i.size, i.bytes)) = some (some (.int .i64 0), 1, 8) := by kernel_rfl
/-- A slice of its own memory (laid since B) that holds the integers l; nil just where there are none. -/
def Owns (B : Nat) (W : World) (v : Value) (l : List Int) : Prop := W.ownsRow B 3 1 v l.length (l.map (Value.int .i64)) ∧ (v = .slice none 0 0 ↔ l = [])
/-- What a function hands back that gathers integers. -/
def Gave (w : World) (l : List Int) (e : Ending) (W' : World) : Prop := ∃ v, e = .returned v ∧ Owns w.heap.size W' v l ∧ Below w.heap.size w W'
theorem row_blk {W : World} {n₀ e size k : Nat} {v : Value} {xs : List Value} (h : W.ownsRow n₀ e size v k xs) (j : Nat) (hj : v.ownBlock = some j) : n₀ ≤ j := by
  rcases h.2 with ⟨rfl, _⟩ | ⟨g, cap, cur, rfl, hb, _, _⟩
  · simp [Value.ownBlock] at hj
  · obtain rfl : g = j := by simpa [Value.ownBlock] using hj
    exact hb
theorem map_snoc (pre : List Int) (x : Int) : pre.map (Value.int .i64) ++ [.int .i64 x] = (pre ++ [x]).map (Value.int .i64) := by simp
theorem add_zero (x : Addr) : x.add 0 = x := by cases x; simp [Addr.add]
/-- A slice's address under which the integers l lie. -/
def Row (w : World) (a : Option Addr) (l : List Int) : Prop := l.length ≤ maxLen ∧ (l = [] ∨ ∃ x, a = some x ∧ ∀ i, i < l.length → w.cell? (x.add i) = some (.int .i64 (l.getD i 0)))
theorem Row.cells {w : World} {a : Option Addr} {l : List Int} (h : Row w a l) {k : Nat} (hk : k < l.length) : ∃ x, a = some x ∧ ∀ i, i < l.length → w.cell? (x.add i) = some (.int .i64 (l.getD i 0)) := by
  rcases h.2 with rfl | h
  · simp at hk
  · exact h
theorem Row.below {w w' : World} {a : Option Addr} {l : List Int} (h : Row w a l) (hb : Below w.heap.size w w') : Row w' a l := by
  refine ⟨h.1, ?_⟩
  rcases h.2 with h | ⟨x, hx, hc⟩
  · exact .inl h
  · exact .inr ⟨x, hx, fun i hi => (hb.cell (World.block_lt_of_cell? w _ (hc i hi))).trans (hc i hi)⟩
/-- What a function has gathered reads as a row. -/
theorem row_of {B : Nat} {w : World} {v : Value} {l : List Int} (h : Owns B w v l) : ∃ a cap, v = .slice a l.length cap ∧ Row w a l := by
  rcases h.1.2 with ⟨rfl, h0⟩ | ⟨g, cap, cur, rfl, h1, h2, h3, h4, h5, h6⟩
  · have : l = [] := h.2.1 rfl
    subst this
    exact ⟨none, 0, rfl, Nat.zero_le _, .inl rfl⟩
  · refine ⟨_, cap, rfl, by omega, .inr ⟨_, rfl, fun i hi => ?_⟩⟩
    exact h.1.cells (g := g) rfl i (.int .i64 (l.getD i 0)) (by rw [List.getElem?_map, List.getD_eq_getElem?_getD, List.getElem?_eq_getElem hi]; rfl)
theorem take_succ (l : List Int) (k : Nat) (h : k < l.length) : l.take (k + 1) = l.take k ++ [l.getD k 0] := by
  rw [List.take_succ_eq_append_getElem h, List.getD_eq_getElem?_getD, List.getElem?_eq_getElem h]; rfl
theorem or_small (m b : Nat) (hm : m < 256) (hb : b < 256) : bits .or .i64 (m : Int) (b : Int) = ((m ||| b : Nat) : Int) :=
  (bits_nat .i64 8 (by decide) (fun n h0 h1 => by rw [IntKind.wrap_i64]; omega) m b hm hb).2
theorem ref_lt (l : List Int) (k : Nat) (h : k ≤ 8) : SetM.refOf l k < 256 := Nat.lt_of_lt_of_le (SetM.refOf_lt l k) (Nat.pow_le_pow_right (n := 2) (by decide) h : 2 ^ k ≤ 2 ^ 8)
theorem ref_or (l : List Int) (k : Nat) (h : k < 8) (hm : (k : Int) ∈ l) : bits .or .i64 (SetM.refOf l k : Nat) ((2 ^ k : Nat) : Int) = (SetM.refOf l (k + 1) : Nat) := by
  rw [or_small _ _ (ref_lt l k (by omega)) (show 2 ^ k < 2 ^ 8 from Nat.pow_lt_pow_right (by decide) h), SetM.refOf_hit l k hm]
theorem wrap_pow (k : Nat) (h : k < 8) : wrap64 ((2 : Int) ^ k) = ((2 ^ k : Nat) : Int) := by
  have h3 : k = 0 ∨ k = 1 ∨ k = 2 ∨ k = 3 ∨ k = 4 ∨ k = 5 ∨ k = 6 ∨ k = 7 := by omega
  rcases h3 with rfl | rfl | rfl | rfl | rfl | rfl | rfl | rfl <;> decide +kernel
theorem ref_or2 (l : List Int) (k : Nat) (h : k < 8) (hm : (k : Int) ∈ l) : bits .or .i64 (SetM.refOf l k : Nat) (wrap64 ((2 : Int) ^ k)) = (SetM.refOf l (k + 1) : Nat) := by
  rw [wrap_pow k h, ref_or l k h hm]
/-- The first place of a number that is there. -/
theorem first_at {l : List Int} {p : Int} (h : p ∈ l) : ∃ j, j < l.length ∧ l.getD j 0 = p ∧ ∀ i, i < j → l.getD i 0 ≠ p := by
  induction l with
  | nil => simp at h
  | cons y l ih =>
    by_cases e : y = p
    · exact ⟨0, by simp, by simpa using e, fun i hi => by omega⟩
    · obtain ⟨j, h1, h2, h3⟩ := ih (by simpa [Ne.symm e] using h)
      refine ⟨j + 1, by simp; omega, by simpa using h2, fun i hi => ?_⟩
      cases i with
      | zero => simpa using e
      | succ i => simpa using h3 i (by omega)
theorem rof_any (a : Option Addr) (cap : Nat) (l : List Int) (w : World) (h : Row w a l) :
    Calls Try.prog 36 #[.slice a l.length cap] w fun e w' => e = .returned (.int .i64 (SetM.of l : Nat)) ∧ w = w' := by
  have h1 := h.1
  unfold maxLen at h1
  have Hr := Lib.hid h
  clear h
  go_enter Try.func36, Try.ntmps36
  go_wp2
  go_loop [3, 4] (fun t p => ∃ k : Nat, k ≤ 8 ∧ p = .int .i64 k ∧ t = .int .i64 (SetM.refOf l k : Nat)) (fun _ p => 8 - (intOf p).toNat)
  case atStart => exact ⟨0, Nat.zero_le _, rfl, rfl⟩
  case round =>
    obtain ⟨k, hk, rfl, rfl⟩ := hrel
    by_cases hlt : k < 8
    · by_cases hm : (k : Int) ∈ l
      · have HS := Lib.hid (ref_or2 l k hlt hm)
        obtain ⟨j, hj, hjk, hjn⟩ := first_at hm
        have Hj := Lib.hid hjk
        have Hn := Lib.hid hjn
        clear hjk hjn hm
        go_wp2
        go_loop [3, 5] (fun t i => ∃ m : Nat, m ≤ j ∧ i = .int .i64 m ∧ t = .int .i64 (SetM.refOf l k : Nat)) (fun _ i => j - (intOf i).toNat)
        case atStart => exact ⟨0, Nat.zero_le _, rfl, rfl⟩
        case round =>
          obtain ⟨m, hm, rfl, rfl⟩ := hrel
          have hml : m < l.length := by omega
          obtain ⟨x, rfl, hc⟩ := Hr.out.cells hml
          have hcell := hc m hml
          clear hc
          by_cases hmj : m < j
          · have hne := Hn.out m hmj
            generalize l.getD m 0 = y at hne hcell
            go_wp2
            go_round
            case rel => exact ⟨m + 1, by omega, by go_num, rfl⟩
            case measure => simp [intOf]; omega
          · obtain rfl : m = j := by omega
            rw [Hj.out] at hcell
            go_wp2
            go_round
            case rel => exact ⟨k + 1, by omega, by go_num, by rw [HS.out]⟩
            case measure => simp [intOf]; omega
      · have HS := Lib.hid (SetM.refOf_miss l k hm)
        have Hm : Hid (∀ i, i < l.length → l.getD i 0 ≠ (k : Int)) := Lib.hid (fun i hi e => hm (by rw [← e, List.getD_eq_getElem?_getD, List.getElem?_eq_getElem hi]; exact List.getElem_mem hi))
        clear hm
        go_wp2
        go_loop [3, 5] (fun t i => ∃ m : Nat, m ≤ l.length ∧ i = .int .i64 m ∧ t = .int .i64 (SetM.refOf l k : Nat)) (fun _ i => l.length - (intOf i).toNat)
        case atStart => exact ⟨0, Nat.zero_le _, rfl, rfl⟩
        case round =>
          obtain ⟨m, hm, rfl, rfl⟩ := hrel
          by_cases hml : m < l.length
          · obtain ⟨x, rfl, hc⟩ := Hr.out.cells hml
            have hcell := hc m hml
            clear hc
            have hne := Hm.out m hml
            generalize l.getD m 0 = y at hne hcell
            go_wp2
            go_round
            case rel => exact ⟨m + 1, by omega, by go_num, rfl⟩
            case measure => simp [intOf]; omega
          · go_wp2
            go_round
            case rel => exact ⟨k + 1, by omega, by go_num, by rw [HS.out]⟩
            case measure => simp [intOf]; omega
    · have HS := Lib.hid (SetM.refOf_eq l)
      obtain rfl : k = 8 := by omega
      go_wp2
      go_ret
      exact ⟨ret_int (by rw [HS.out]), rfl⟩
theorem list_snoc {B : Nat} {l : List Int} {x : Int} {v' : Value} {w1 : World} (h : w1.ownsRow B 3 1 v' (l.length + 1) (l.map (Value.int .i64) ++ [.int .i64 x])) (hn : ¬ v' = .slice none 0 0) : Owns B w1 v' (l ++ [x]) := by
  refine ⟨?_, ?_⟩
  · rw [List.length_append, ← map_snoc]; exact h
  · simp [hn]
theorem rlist_any (s : Int) (w : World) : Calls Try.prog 37 #[.int .i64 s] w (Gave w (SetM.list s)) := by
  obtain ⟨i0, hi, hz0, hz1, hz2⟩ := info_parts info3
  go_enter Try.func37, Try.ntmps37
  go_wp2
  go_loopw [3, 4] (fun v p wr => ∃ k : Nat, k ≤ 8 ∧ p = .int .i64 k ∧ Owns w.heap.size wr v (SetM.upto s k) ∧ Below w.heap.size w wr) (fun _ p _ => 8 - (intOf p).toNat)
  case atStart => exact ⟨0, Nat.zero_le _, rfl, ⟨World.ownsRow_nil _ _ _ _, by simp [SetM.upto_zero]⟩, Below.refl _ _⟩
  case round =>
    obtain ⟨k, hk, rfl, ⟨hown, hnil⟩, hbel⟩ := hrel
    have hB := hbel.size
    have Hn := Lib.hid hnil
    clear hnil
    by_cases hlt : k < 8
    · have hul := SetM.upto_len s k
      by_cases hh : SetM.has s k = true
      · have Hs := Lib.hid (SetM.upto_hit s k hh)
        go_wp2_with (first
          | (go_at_call 46; refine (rhas_any _ _ _).mono ?_; rintro e w' ⟨rfl, rfl⟩; rw [hh])
          | (at_builtin; refine wpList_append_own _ rfl _ _ 35 rfl w.heap.size 3 i0 (.int .i64 0) 1 8 Try.underlying35 hi hz0 hz1 hz2 rfl (by decide) _ _ _ rfl (hown.alloc _) ⟨wr.heap.size, 0, none⟩ 1 1 [.int .i64 (k : Int)] rfl rfl ?c1 ?c2 ?c3 ?c4 ?c5 ?_))
        case c1 =>
          intro j u hj
          match j, hj with
          | 0, hj => simp at hj; subst hj; simp [Addr.add]
        case c2 => intro u hu; simp at hu; subst hu; rfl
        case c3 => unfold maxLen; omega
        case c4 => omega
        case c5 => simp; omega
        intro v' w1 hown' hgrow hnil'
        have hbel' : Below w.heap.size w w1 := (hbel.alloc (by omega) _).grown hgrow (by simp; omega) fun j hj => row_blk hown j hj
        have Hown := Lib.hid (list_snoc hown' hnil')
        clear hown' hgrow hown hnil'
        go_wp2
        go_roundw
        case rel => exact ⟨k + 1, by omega, by go_num, by rw [Hs.out]; exact Hown.out, hbel'⟩
        case measure => simp [intOf]; omega
      · have hh' : SetM.has s k = false := by simpa using hh
        have Hs := Lib.hid (SetM.upto_miss s k hh')
        clear hh
        go_wp2_with (go_at_call 46; refine (rhas_any _ _ _).mono ?_; rintro e w' ⟨rfl, rfl⟩; rw [hh'])
        go_roundw
        case rel => exact ⟨k + 1, by omega, by go_num, by rw [Hs.out]; exact ⟨hown, Hn.out⟩, hbel⟩
        case measure => simp [intOf]; omega
    · obtain rfl : k = 8 := by omega
      go_wp2
      go_ret
      exact ⟨_, rfl, ⟨hown, Hn.out⟩, hbel⟩
theorem rwith_any (s p : Int) (w : World) : Calls Try.prog 25 #[.int .i64 s, .int .i64 p] w fun e w' => e = .returned (.int .i64 (SetM.withN s p : Nat)) ∧ Below w.heap.size w w' := by
  obtain ⟨i0, hi, hz0, hz1, hz2⟩ := info_parts info3
  have hl8 := SetM.list_len s
  have HS := Lib.hid (SetM.of_with s p)
  go_enter Try.func25, Try.ntmps25
  go_wp2_with fail
  refine (rlist_any _ _).mono ?_
  rintro e w1 ⟨v, rfl, ⟨hown, hnil⟩, hbel⟩
  have hB := hbel.size
  clear hnil
  go_wp2_with (at_builtin; refine wpList_append_own _ rfl _ _ 35 rfl w.heap.size 3 i0 (.int .i64 0) 1 8 Try.underlying35 hi hz0 hz1 hz2 rfl (by decide) _ _ _ rfl (hown.alloc _) ⟨w1.heap.size, 0, none⟩ 1 1 [.int .i64 p] rfl rfl ?c1 ?c2 ?c3 ?c4 ?c5 ?_)
  case c1 =>
    intro j u hj
    match j, hj with
    | 0, hj => simp at hj; subst hj; simp [Addr.add]
  case c2 => intro u hu; simp at hu; subst hu; rfl
  case c3 => unfold maxLen; omega
  case c4 => omega
  case c5 => simp; omega
  intro v' w2 hown' hgrow hnil'
  have hbel' : Below w.heap.size w w2 := (hbel.alloc (by omega) _).grown hgrow (by simp; omega) fun j hj => row_blk hown j hj
  obtain ⟨L, hL⟩ : ∃ L, SetM.list s ++ [p] = L := ⟨_, rfl⟩
  have hrow' := list_snoc hown' hnil'
  rw [hL] at HS hrow'
  obtain ⟨a, cap, rfl, hrow⟩ := row_of hrow'
  have Hrow := Lib.hid hrow
  clear hown' hgrow hown hnil' hrow hrow' hL
  go_wp2_with (go_at_call 36; refine (rof_any _ _ L _ Hrow.out).mono ?_; rintro e w' ⟨rfl, rfl⟩)
  go_ret
  exact ⟨ret_int (by rw [HS.out]), hbel'⟩
/-- A number as one from 0 to n - 1. -/
theorem place_any (v n : Int) (w : World) (h : 0 < n) (h' : n ≤ 9223372036854775807) :
    Calls Try.prog 17 #[.int .i64 v, .int .i64 n] w fun e w' => e = .returned (.int .i64 (v % n)) ∧ w = w' := by
  have hm := Int.emod_nonneg v (show n ≠ 0 by omega)
  have hm2 := Int.emod_lt_of_pos v h
  have ht : 0 ≤ v.tmod n ∧ v % n = v.tmod n ∨ v.tmod n < 0 ∧ v % n = v.tmod n + n := by
    have h1 := Int.tmod_eq_emod (a := v) (b := n)
    split at h1 <;> omega
  have hb : -9223372036854775808 ≤ v.tmod n ∧ v.tmod n ≤ 9223372036854775807 := by omega
  obtain ⟨hb1, hb2⟩ := hb
  have hn0 : n ≠ 0 := by omega
  rcases ht with ⟨ht, he⟩ | ⟨ht, he⟩
  · have He := Lib.hid he
    clear he hm hm2
    go_enter Try.func17, Try.ntmps17
    go_wp2
    go_ret
    exact ⟨ret_int (by rw [He.out]), rfl⟩
  · have He := Lib.hid he
    clear he hm hm2
    go_enter Try.func17, Try.ntmps17
    go_wp2
    go_ret
    exact ⟨ret_int (by rw [He.out]), rfl⟩
/-! numbers of a row -/
open Tab in
/-- A row of numbers, at a place; 0 behind the end. -/
def num (L : List Int) (i : Int) (n : Int) : Int := L.getD i.toNat 0 % n
open Tab in
theorem at_any (a : Option Addr) (cap : Nat) (L : List Int) (i : Int) (w : World) (h : IntRow w ⟨a, cap⟩ L) (h0 : 0 ≤ i) :
    Calls Try.prog 35 #[.slice a L.length cap, .int .i64 i] w fun e w' => e = .returned (.int .i64 (L.getD i.toNat 0)) ∧ w = w' := by
  have hl := h.len
  unfold maxLen at hl
  obtain ⟨k, rfl⟩ := Int.eq_ofNat_of_zero_le h0
  by_cases hk : k < L.length
  · have hv := List.getElem?_eq_getElem hk
    generalize hu : L[k] = u at hv
    obtain ⟨x, hx, hc⟩ := IntRow.at h hv
    obtain rfl : a = some x := hx
    have HE : Hid (u = L.getD ((k : Int)).toNat 0) := Lib.hid (by rw [Int.toNat_natCast, List.getD_eq_getElem?_getD, hv]; rfl)
    generalize L.getD ((k : Int)).toNat 0 = r at HE ⊢
    clear hv hu h
    go_enter Try.func35, Try.ntmps35
    go_wp2
    go_ret
    exact ⟨ret_int HE.out, rfl⟩
  · have HE : Hid (0 = L.getD ((k : Int)).toNat 0) := Lib.hid (by rw [Int.toNat_natCast, List.getD_eq_getElem?_getD, List.getElem?_eq_none (by omega)]; rfl)
    generalize L.getD ((k : Int)).toNat 0 = r at HE ⊢
    clear h
    go_enter Try.func35, Try.ntmps35
    go_wp2
    go_ret
    exact ⟨ret_int HE.out, rfl⟩
open Tab in
theorem from_any (a : Option Addr) (cap : Nat) (L : List Int) (i n : Int) (w : World) (h : IntRow w ⟨a, cap⟩ L) (h0 : 0 ≤ i) (hn : 0 < n) (hn' : n ≤ 1000) :
    Calls Try.prog 24 #[.slice a L.length cap, .int .i64 i, .int .i64 n] w fun e w' => e = .returned (.int .i64 (num L i n)) ∧ w = w' := by
  have H := Lib.hid h
  clear h
  go_enter Try.func24, Try.ntmps24
  go_wp2_with fail
  refine (at_any a cap L i w H.out h0).mono ?_
  rintro e w' ⟨rfl, rfl⟩
  have HE : Hid (L.getD i.toNat 0 % n = num L i n) := Lib.hid rfl
  generalize L.getD i.toNat 0 = v at HE ⊢
  go_wp2_with fail
  refine (place_any v n _ hn (by omega)).mono ?_
  rintro e w' ⟨rfl, rfl⟩
  go_wp2
  go_ret
  exact ⟨ret_int HE.out, rfl⟩
theorem num_range (L : List Int) (i n : Int) (hn : 0 < n) : 0 ≤ num L i n ∧ num L i n < n := ⟨Int.emod_nonneg _ (by omega), Int.emod_lt_of_pos _ hn⟩
end RefS
namespace Gath
open Go Go.RowKit
open Tab
section
variable {α : Type} {enc : α → List Value} {size : Nat} {B : Nat} {w w' : World} {e : TypeId} {v : Value} {l : List α}
/-- A slice of its own memory (laid since B) that holds the elements l. -/
def Owns (enc : α → List Value) (size B : Nat) (w : World) (e : TypeId) (v : Value) (l : List α) : Prop := w.ownsRow B e size v l.length (l.flatMap enc)
theorem Owns.nil : Owns enc size B w e (.slice none 0 0) ([] : List α) := World.ownsRow_nil _ _ _ _
theorem Owns.snoc {x : α} {v' : Value} (h : w.ownsRow B e size v' (l.length + 1) (l.flatMap enc ++ enc x)) : Owns enc size B w e v' (l ++ [x]) := by
  unfold Owns
  rw [List.length_append, List.flatMap_append, List.flatMap_cons, List.flatMap_nil, List.append_nil]
  exact h
theorem Owns.below (h : Owns enc size B w e v l) (hb : Below w.heap.size w w') : Owns enc size B w' e v l :=
  World.ownsRow.kept (row := none) h ⟨hb.os, hb.tape, hb.output, hb.size, fun j hj _ => hb.block j hj⟩ (by cases hv : v.ownBlock <;> simp)
theorem Owns.mono {B' : Nat} (h : Owns enc size B w e v l) (hb : B' ≤ B) : Owns enc size B' w e v l := by
  refine ⟨h.1, ?_⟩
  rcases h.2 with hn | ⟨g, cap, cur, rfl, h1, h2⟩
  · exact .inl hn
  · exact .inr ⟨g, cap, cur, rfl, by omega, h2⟩
theorem Owns.blk (h : Owns enc size B w e v l) (j : Nat) (hj : v.ownBlock = some j) : B ≤ j := by
  rcases h.2 with ⟨rfl, _⟩ | ⟨g, cap, cur, rfl, hb, _, _⟩
  · simp [Value.ownBlock] at hj
  · obtain rfl : g = j := by simpa [Value.ownBlock] using hj
    exact hb
theorem flat_at (henc : ∀ x, (enc x).length = size) : ∀ (l : List α) (i : Nat) (x : α), l[i]? = some x → ((l.flatMap enc).drop (i * size)).take size = enc x
  | [], i, x, h => by simp at h
  | y :: l, 0, x, h => by
    obtain rfl : y = x := by simpa using h
    rw [Nat.zero_mul, List.drop_zero, List.flatMap_cons, ← henc y, List.take_left]
  | y :: l, i + 1, x, h => by
    rw [List.flatMap_cons, Nat.add_mul, Nat.one_mul, Nat.add_comm, ← henc y, List.drop_append, List.drop_of_length_le (by omega), List.nil_append, Nat.add_sub_cancel_left, henc y]
    exact flat_at henc l i x (by simpa using h)
/-- What was gathered reads as a row. -/
theorem Owns.row (h : Owns enc size B w e v l) (henc : ∀ x, (enc x).length = size) : ∃ s : Sl, v = s.val l.length ∧ RowOf size enc w s l := by
  rcases h.2 with ⟨rfl, h0⟩ | ⟨g, cap, cur, rfl, h1, h2, h3, h4, h5, h6⟩
  · have : l = [] := List.eq_nil_of_length_eq_zero h0
    subst this
    exact ⟨⟨none, 0⟩, rfl, RowOf.nil w⟩
  · refine ⟨⟨some ⟨g, 0, none⟩, cap⟩, rfl, .inr ⟨_, rfl, h3, h4, fun i x hx j u hu => ?_⟩⟩
    have hi : i < l.length := (List.getElem?_eq_some_iff.1 hx).1
    have hj : j < size := by rw [← henc x]; exact (List.getElem?_eq_some_iff.1 hu).1
    rw [Addr.add_mid, Nat.zero_add, Addr.add_mid, cell_of_row _ _ _ _ _ _ h2]
    have hf := flat_at henc l i x hx
    rw [← h6] at hf
    rw [← hf] at hu
    have hlt : i * size + j < l.length * size := by
      have : (i + 1) * size ≤ l.length * size := Nat.mul_le_mul_right _ hi
      rw [Nat.add_mul, Nat.one_mul] at this
      omega
    rw [List.getElem?_take, if_pos hj, List.getElem?_drop, List.getElem?_take, if_pos hlt, Array.getElem?_toList] at hu
    exact hu
end
end Gath
namespace GenG
open Go.ChangeShapes Go.WideShapes Go.ChangeAt Go.RowKit
open Tab Gath
open RefS (num from_any num_range ret_int)
/-- m phases from p on. -/
def seg (p m : Nat) : List Int := (List.range m).map fun i => ((p + i : Nat) : Int)
theorem seg_len (p m : Nat) : (seg p m).length = m := by simp [seg]
theorem seg_succ (p m : Nat) : seg p (m + 1) = seg p m ++ [((p + m : Nat) : Int)] := by unfold seg; rw [List.range_succ, List.map_append]; rfl
def lim (G g : Nat) : Nat := 9 + g - G
def want0 (L : List Int) (g : Nat) : Nat := (num L (1 + 2 * g) 3).toNat
def want1 (L : List Int) (g : Nat) (m : Nat) : Nat := if num L (2 + 2 * g) 3 = 0 ∧ m = 0 then 1 else (num L (2 + 2 * g) 3).toNat
def n0 (L : List Int) (G g p : Nat) : Nat := min (want0 L g) (lim G g - p)
def n1 (L : List Int) (G g p : Nat) : Nat := min (want1 L g (n0 L G g p)) (lim G g - (p + n0 L G g p))
def grpD (L : List Int) (G g p : Nat) : List Int × List Int := (seg p (n0 L G g p), seg (p + n0 L G g p) (n1 L G g p))
def upTo (L : List Int) (G : Nat) : Nat → List (List Int × List Int) × Nat
  | 0 => ([], 0)
  | g + 1 => ((upTo L G g).1 ++ [grpD L G g (upTo L G g).2], (upTo L G g).2 + n0 L G g (upTo L G g).2 + n1 L G g (upTo L G g).2)
def genG (L : List Int) : Nat := (1 + num L 0 3).toNat
def genGs (L : List Int) : List (List Int × List Int) := (upTo L (genG L) (genG L)).1
def genN (L : List Int) : Nat := (upTo L (genG L) (genG L)).2
theorem genG_range (L : List Int) : 1 ≤ genG L ∧ genG L ≤ 3 := by have := num_range L 0 3 (by omega); unfold genG; omega
theorem want0_le (L : List Int) (g : Nat) : want0 L g ≤ 2 := by have := num_range L (1 + 2 * g) 3 (by omega); unfold want0; omega
theorem want1_le (L : List Int) (g m : Nat) : want1 L g m ≤ 2 := by have := num_range L (2 + 2 * g) 3 (by omega); unfold want1; split <;> omega
theorem up_le (L : List Int) (G : Nat) (hG : G ≤ 3) : ∀ g, g ≤ G → (upTo L G g).2 ≤ 8
  | 0, _ => Nat.zero_le _
  | g + 1, h => by
    have := up_le L G hG g (by omega)
    show (upTo L G g).2 + n0 L G g (upTo L G g).2 + n1 L G g (upTo L G g).2 ≤ 8
    unfold n1 n0 lim
    omega
theorem up_len (L : List Int) (G : Nat) : ∀ g, (upTo L G g).1.length = g
  | 0 => rfl
  | g + 1 => by show ((upTo L G g).1 ++ [_]).length = g + 1; rw [List.length_append, up_len L G g]; rfl
/-- A row of integers, in a block of integers. -/
def RowI (w : World) (s : Sl) (l : List Int) : Prop := IntRow w s l ∧ ∀ x, s.a = some x → ∃ cs : Array Value, w.heap[x.block]? = some (.cells cs 3 (0, 0))
theorem RowI.below {w w' : World} {s : Sl} {l : List Int} (h : RowI w s l) (hb : Below w.heap.size w w') : RowI w' s l := ⟨h.1.below hb, fun x hx => by
  obtain ⟨cs, hc⟩ := h.2 x hx
  exact ⟨cs, (hb.block _ (Array.getElem?_eq_some_iff.1 hc).1).trans hc⟩⟩
theorem add_block (x : Addr) (k : Nat) : (x.add k).block = x.block := by unfold Addr.add; split <;> rfl
theorem RowI.grown {w w' : World} {s : Sl} {l : List Int} {row : Option Nat} (h : RowI w s l) (hg : w.grownBy w' row) (hne : ∀ x, s.a = some x → some x.block ≠ row) : RowI w' s l := by
  refine ⟨?_, fun x hx => ?_⟩
  · rcases h.1 with h | ⟨x, h1, h2, h3, h4⟩
    · exact .inl h
    · exact .inr ⟨x, h1, h2, h3, fun i v hv j u hu => hg.cell (h4 i v hv j u hu) (by rw [add_block, add_block]; exact hne x h1)⟩
  · obtain ⟨cs, hc⟩ := h.2 x hx
    exact ⟨cs, (hg.block _ (Array.getElem?_eq_some_iff.1 hc).1 (hne x hx)).trans hc⟩
/-- It lies in another block than one of another type. -/
theorem RowI.ne {w : World} {s : Sl} {l : List Int} {b : Nat} {cs : Array Value} {t : TypeId} (h : RowI w s l) (hb : w.heap[b]? = some (.cells cs t (0, 0))) (ht : t ≠ 3) : ∀ x, s.a = some x → x.block ≠ b := by
  intro x hx e
  obtain ⟨ds, hc⟩ := h.2 x hx
  rw [e, hb] at hc
  simp at hc
  exact ht hc.2
theorem grown_set (W : World) (b i : Nat) (v : Value) : W.grownBy (W.setCell ⟨b, i, none⟩ v) (some b) :=
  ⟨rfl, rfl, rfl, by simp, fun j _ hj => heap_setCell_other _ _ _ _ (fun e => hj (by rw [e]))⟩
theorem own_row {B : Nat} {w : World} {v : Value} {l : List Int} (h : Owns (fun n => [I n]) 1 B w 3 v l) : ∃ s : Sl, v = s.val l.length ∧ RowI w s l := by
  obtain ⟨s, hs, hr⟩ := Owns.row h (enc := fun n => [I n]) (fun _ => rfl)
  refine ⟨s, hs, hr, fun x hx => ?_⟩
  rcases h.2 with ⟨e, _⟩ | ⟨g, cap, cur, e, h1, h2, _⟩
  · rw [hs] at e
    simp [Sl.val, hx] at e
  · rw [hs] at e
    simp [Sl.val, hx] at e
    obtain ⟨rfl, _⟩ := e
    exact ⟨cur, h2⟩
theorem own_kept {α : Type} {enc : α → List Value} {n B : Nat} {w w' : World} {t : TypeId} {v : Value} {l : List α} {row : Option Nat} (h : Owns enc n B w t v l) (hg : w.grownBy w' row) (hne : ∀ m, v.ownBlock = some m → row ≠ some m) : Owns enc n B w' t v l :=
  World.ownsRow.kept h hg (by
    cases e : v.ownBlock with
    | none => exact .inl rfl
    | some m => exact .inr (fun e' => hne m e e'.symm))
theorem own_lt {α : Type} {enc : α → List Value} {n B : Nat} {w : World} {t : TypeId} {v : Value} {l : List α} (h : Owns enc n B w t v l) : ∀ m, v.ownBlock = some m → m < w.heap.size := by
  intro m hm
  rcases h.2 with ⟨rfl, _⟩ | ⟨g, cap, cur, rfl, h1, h2, _⟩
  · simp [Value.ownBlock] at hm
  · simp [Value.ownBlock] at hm
    subst hm
    exact (Array.getElem?_eq_some_iff.1 h2).1
theorem own_type {α : Type} {enc : α → List Value} {n B : Nat} {w : World} {t : TypeId} {v : Value} {l : List α} (h : Owns enc n B w t v l) : ∀ m, v.ownBlock = some m → ∃ cs : Array Value, w.heap[m]? = some (.cells cs t (0, 0)) := by
  intro m hm
  rcases h.2 with ⟨rfl, _⟩ | ⟨g, cap, cur, rfl, h1, h2, _⟩
  · simp [Value.ownBlock] at hm
  · simp [Value.ownBlock] at hm
    subst hm
    exact ⟨cur, h2⟩
theorem own_ne {α : Type} {enc : α → List Value} {n B : Nat} {w : World} {t t' : TypeId} {v : Value} {l : List α} {b : Nat} {cs : Array Value} (h : Owns enc n B w t v l) (hb : w.heap[b]? = some (.cells cs t' (0, 0))) (ht : t' ≠ t) : v.ownBlock ≠ some b := by
  intro e
  obtain ⟨ds, hd⟩ := own_type h b e
  rw [hb] at hd
  simp at hd
  exact ht hd.2
theorem grown_below {w w' : World} (hb : Below w.heap.size w w') (row : Option Nat) : w.grownBy w' row := ⟨hb.os, hb.tape, hb.output, hb.size, fun j hj _ => hb.block j hj⟩
theorem grown_trans {w w1 w2 : World} {b : Nat} {row : Option Nat} (h : w.grownBy w1 (some b)) (h2 : w1.grownBy w2 row) (hr : ∀ m, row = some m → m = b ∨ w.heap.size ≤ m) : w.grownBy w2 (some b) := by
  refine ⟨h2.os.trans h.os, h2.tape.trans h.tape, h2.output.trans h.output, Nat.le_trans h.size h2.size, fun j hj hne => ?_⟩
  rw [h2.block j (Nat.lt_of_lt_of_le hj h.size) (fun e => by rcases hr j e.symm with e' | e'; exact hne (by rw [e']); omega), h.block j hj hne]
/-- One group while its first row is filled. -/
structure G0 (Bg : Nat) (w1 : World) (a : Option Addr) (c : Nat) (p i : Nat) (W : World) : Prop where
  bel : Below Bg w1 W
  box : W.heap[Bg]? = some (.cells #[.slice a i c, .slice none 0 0] 69 (0, 0))
  own : Owns (fun n => [I n]) 1 (Bg + 1) W 3 (.slice a i c) (seg p i)
theorem G0.step {Bg : Nat} {w1 W W' : World} {a : Option Addr} {c p i : Nat} (h : G0 Bg w1 a c p i W) (hb : Below W.heap.size W W') (hB : Bg ≤ W.heap.size) : G0 Bg w1 a c p i W' :=
  ⟨h.bel.trans (hb.mono hB), (hb.block _ (Array.getElem?_eq_some_iff.1 h.box).1).trans h.box, h.own.below hb⟩
theorem G0.put {Bg : Nat} {w1 W W' : World} {a : Option Addr} {c p i : Nat} {v' : Value} (h : G0 Bg w1 a c p i W) (hB : Bg + 1 ≤ W.heap.size) (hg : W.grownBy W' (Value.slice a i c).ownBlock)
    (ho : W'.ownsRow (Bg + 1) 3 1 v' (i + 1) ((seg p i).flatMap (fun n => [I n]) ++ [I ((p + i : Nat) : Int)])) :
    (W'.heap[Bg]? = some (.cells #[.slice a i c, .slice none 0 0] 69 (0, 0))) ∧ ∃ a' c', v' = .slice a' (i + 1) c' ∧ G0 Bg w1 a' c' p (i + 1) (W'.setCell ⟨Bg, 0, none⟩ v') := by
  have hne : some Bg ≠ (Value.slice a i c).ownBlock := fun e => by have := h.own.blk _ e.symm; omega
  have hbx := (hg.block Bg (by omega) hne).trans h.box
  have hO : Owns (fun n => [I n]) 1 (Bg + 1) W' 3 v' (seg p (i + 1)) := by
    rw [seg_succ]; refine Owns.snoc ?_; rw [seg_len]; exact ho
  obtain ⟨⟨a', c'⟩, hs, hr⟩ := own_row hO
  rw [seg_len] at hs
  refine ⟨hbx, a', c', hs, ?_⟩
  have hB' : Bg ≤ W'.heap.size := Nat.le_trans (by omega) hg.size
  refine ⟨?_, ?_, ?_⟩
  · exact (h.bel.grown hg (by omega) (fun k hk => by have := h.own.blk k hk; omega)).setCell (p := ⟨Bg, 0, none⟩) (Nat.le_refl _) v'
  · rw [heap_setCell_same _ _ _ _ _ _ hbx, hs]; rfl
  · rw [hs] at hO ⊢
    exact own_kept hO (grown_set _ _ _ _) (fun m hm e => by have := hO.blk m hm; cases e; omega)
/-- One group while its second row is filled. -/
structure G1 (Bg : Nat) (w1 : World) (B1 : Nat) (a : Option Addr) (c : Nat) (p m : Nat) (a1 : Option Addr) (c1 : Nat) (i : Nat) (W : World) : Prop where
  bel : Below Bg w1 W
  box : W.heap[Bg]? = some (.cells #[.slice a m c, .slice a1 i c1] 69 (0, 0))
  own : Owns (fun n => [I n]) 1 (Bg + 1) W 3 (.slice a m c) (seg p m)
  lt : ∀ j, (Value.slice a m c).ownBlock = some j → j < B1
  own1 : Owns (fun n => [I n]) 1 B1 W 3 (.slice a1 i c1) (seg (p + m) i)
  sz : B1 ≤ W.heap.size
theorem G0.next {Bg : Nat} {w1 W : World} {a : Option Addr} {c p m : Nat} (h : G0 Bg w1 a c p m W) : G1 Bg w1 W.heap.size a c p m none 0 0 W :=
  ⟨h.bel, h.box, h.own, own_lt h.own, Owns.nil, Nat.le_refl _⟩
theorem G1.step {Bg B1 : Nat} {w1 W W' : World} {a a1 : Option Addr} {c p m c1 i : Nat} (h : G1 Bg w1 B1 a c p m a1 c1 i W) (hb : Below W.heap.size W W') (hB : Bg ≤ W.heap.size) : G1 Bg w1 B1 a c p m a1 c1 i W' :=
  ⟨h.bel.trans (hb.mono hB), (hb.block _ (Array.getElem?_eq_some_iff.1 h.box).1).trans h.box, h.own.below hb, h.lt, h.own1.below hb, Nat.le_trans h.sz hb.size⟩
theorem G1.put {Bg B1 : Nat} {w1 W W' : World} {a a1 : Option Addr} {c p m c1 i : Nat} {v' : Value} (h : G1 Bg w1 B1 a c p m a1 c1 i W) (h1 : Bg < B1) (hB : B1 ≤ W.heap.size) (hg : W.grownBy W' (Value.slice a1 i c1).ownBlock)
    (ho : W'.ownsRow B1 3 1 v' (i + 1) ((seg (p + m) i).flatMap (fun n => [I n]) ++ [I ((p + m + i : Nat) : Int)])) :
    (W'.heap[Bg]? = some (.cells #[.slice a m c, .slice a1 i c1] 69 (0, 0))) ∧ ∃ a' c', v' = .slice a' (i + 1) c' ∧ G1 Bg w1 B1 a c p m a' c' (i + 1) (W'.setCell ⟨Bg, 1, none⟩ v') := by
  have hne : some Bg ≠ (Value.slice a1 i c1).ownBlock := fun e => by have := h.own1.blk _ e.symm; omega
  have hbx := (hg.block Bg (by omega) hne).trans h.box
  have hO : Owns (fun n => [I n]) 1 B1 W' 3 v' (seg (p + m) (i + 1)) := by
    rw [seg_succ]; refine Owns.snoc ?_; rw [seg_len]; exact ho
  have hO0 : Owns (fun n => [I n]) 1 (Bg + 1) W' 3 (.slice a m c) (seg p m) := own_kept h.own hg (fun j hj e => by have := h.lt j hj; have := h.own1.blk j e; omega)
  obtain ⟨⟨a', c'⟩, hs, hr⟩ := own_row hO
  rw [seg_len] at hs
  refine ⟨hbx, a', c', hs, ?_⟩
  have hB' : Bg ≤ W'.heap.size := Nat.le_trans (by omega) hg.size
  refine ⟨?_, ?_, ?_, h.lt, ?_, by simp; exact Nat.le_trans h.sz hg.size⟩
  · exact (h.bel.grown hg (by omega) (fun k hk => by have := h.own1.blk k hk; omega)).setCell (p := ⟨Bg, 1, none⟩) (Nat.le_refl _) v'
  · rw [heap_setCell_same _ _ _ _ _ _ hbx, hs]; rfl
  · exact own_kept hO0 (grown_set _ _ _ _) (fun m hm e => by have := hO0.blk m hm; cases e; omega)
  · rw [hs] at hO ⊢
    exact own_kept hO (grown_set _ _ _ _) (fun m hm e => by have := hO.blk m hm; cases e; omega)
/-- The groups so far. -/
structure GS (w : World) (tb : Nat) (cs : List Value) (ga : Option Addr) (gc : Nat) (g : Nat) (gs : List Gr) (W : World) : Prop where
  gb : w.grownBy W (some tb)
  tbk : W.heap[tb]? = some (.cells (cs.set 104 (.slice ga g gc)).toArray 43 (0, 0))
  own : Owns Gr.cells 2 w.heap.size W 69 (.slice ga g gc) gs
  len : gs.length = g
  rows : ∀ x ∈ gs, RowI W x.s0 x.r0 ∧ RowI W x.s1 x.r1
theorem GS.step {w W W' : World} {tb : Nat} {cs : List Value} {ga : Option Addr} {gc g : Nat} {gs : List Gr} (h : GS w tb cs ga gc g gs W) (hb : Below W.heap.size W W') : GS w tb cs ga gc g gs W' :=
  ⟨grown_trans h.gb (grown_below hb none) (fun m e => by cases e), (hb.block _ (Array.getElem?_eq_some_iff.1 h.tbk).1).trans h.tbk, h.own.below hb, h.len, fun x hx => ⟨(h.rows x hx).1.below hb, (h.rows x hx).2.below hb⟩⟩
theorem GS.put {w W W' : World} {tb : Nat} {cs : List Value} {ga : Option Addr} {gc g : Nat} {gs : List Gr} {v' : Value} (x : Gr) (h : GS w tb cs ga gc g gs W) (hx : RowI W x.s0 x.r0 ∧ RowI W x.s1 x.r1) (hg : W.grownBy W' (Value.slice ga g gc).ownBlock) (hc : cs.length = 131)
    (ho : W'.ownsRow w.heap.size 69 2 v' (g + 1) (gs.flatMap Gr.cells ++ x.cells)) :
    (W'.heap[tb]? = some (.cells (cs.set 104 (.slice ga g gc)).toArray 43 (0, 0))) ∧ ∃ a' c', v' = .slice a' (g + 1) c' ∧ GS w tb cs a' c' (g + 1) (gs ++ [x]) (W'.setCell ⟨tb, 104, none⟩ v') := by
  have hne : some tb ≠ (Value.slice ga g gc).ownBlock := fun e => own_ne h.own h.tbk (by decide) e.symm
  have hbx := (hg.block tb (Array.getElem?_eq_some_iff.1 h.tbk).1 hne).trans h.tbk
  have hO : Owns Gr.cells 2 w.heap.size W' 69 v' (gs ++ [x]) := Owns.snoc (by rw [h.len]; exact ho)
  obtain ⟨⟨a', c'⟩, hs, hr⟩ := Owns.row hO (fun _ => rfl)
  have hs2 : v' = .slice a' (g + 1) c' := by rw [hs, List.length_append, h.len]; rfl
  have hK : ∀ s l, RowI W s l → RowI (W'.setCell ⟨tb, 104, none⟩ v') s l := fun s l hr => by
    have h1 : RowI W' s l := hr.grown hg (fun y hy e => by
      obtain ⟨ds, hd⟩ := own_type h.own _ e.symm
      exact hr.ne hd (by decide) y hy rfl)
    exact h1.grown (grown_set _ _ _ _) (fun y hy e => h1.ne hbx (by decide) y hy (by cases e; rfl))
  refine ⟨hbx, a', c', hs2, ?_, ?_, ?_, by rw [List.length_append, h.len]; rfl, ?_⟩
  · exact grown_trans (grown_trans h.gb hg (fun m e => .inr (h.own.blk m e))) (grown_set _ _ _ _) (fun m e => .inl (by cases e; rfl))
  · rw [heap_setCell_same _ _ _ _ _ _ hbx, hs2]
    simp
  · rw [← hs2]
    exact own_kept hO (grown_set _ _ _ _) (fun m hm e => by cases e; exact own_ne hO hbx (by decide) hm)
  · intro y hy
    rcases List.mem_append.1 hy with hy | hy
    · exact ⟨hK _ _ (h.rows y hy).1, hK _ _ (h.rows y hy).2⟩
    · obtain rfl : y = x := by simpa using hy
      exact ⟨hK _ _ hx.1, hK _ _ hx.2⟩
theorem from_at (a : Option Addr) (cap : Nat) (L : List Int) (i j n : Int) (hij : i = j) (w : World) (h : IntRow w ⟨a, cap⟩ L) (h0 : 0 ≤ i) (hn : 0 < n) (hn' : n ≤ 1000) :
    Calls Try.prog 24 #[.slice a L.length cap, .int .i64 i, .int .i64 n] w fun e w' => e = .returned (.int .i64 (num L j n)) ∧ w = w' := by
  subst hij; exact from_any a cap L i n w h h0 hn hn'
theorem infoGz : (Try.prog.info? 69).map (fun i => (i.zero, i.size)) = some (some (.agg #[.slice none 0 0, .slice none 0 0]), 2) := by kernel_rfl
theorem infoG2 : (Try.prog.info? 69).map (·.size) = some 2 := by kernel_rfl
theorem infoG3 : (Try.prog.info? 69).map (fun i => (i.zero, i.size, i.bytes)) = some (some (.agg #[.slice none 0 0, .slice none 0 0]), 2, 48) := by kernel_rfl
end GenG
namespace Same
open Go.ChangeShapes Go.WideShapes Go.ChangeAt Go.RowKit
open Tab
open May (ret_bool chain take_succ' infoP infoG infoD infoR infoB row_new)
end Same
namespace Same
open Go.ChangeShapes Go.WideShapes Go.ChangeAt Go.RowKit
open Tab
open May (ret_bool chain take_succ' infoP infoG infoD infoR infoB row_new)
end Same
namespace Same
open Go.ChangeShapes Go.WideShapes Go.ChangeAt Go.RowKit
open Tab
open May (ret_bool chain take_succ' infoP infoG infoD infoR infoB row_new St)
theorem below_setRow {B : Nat} {a w : World} (h : Below B a w) {g : Nat} (hg : B ≤ g) (cs : Array Value) : Below B a (w.setRow g cs) :=
  h.trans ⟨rfl, rfl, rfl, by simp [World.setRow], fun j hj => setRow_other _ _ _ _ (by omega)⟩
end Same
end Go.Proofs.Ytldmmobgmfllkaa
