/- The contract of table.May, at any table. -/
import Derived.Test.YtbpfknkbiaplpaaRows
import Derived.Test.YtbpfknkbiaplpaaMayC
namespace Go.Proofs.Ytbpfknkbiaplpaa.May
open Go.ChangeShapes Go.WideShapes Go.ChangeAt Go.RowKit
open Tab
set_option linter.unusedVariables false
set_option linter.unusedSimpArgs false

def listMay {α : Type} (m : Int) (f : α → Bool) (l : List α) : Bool := decide ((l.length : Int) ≤ m) && l.all f
def tabMay (T : Tab) : Bool :=
  listMay 8 Ph.may T.phases && (listMay 4 groupMay T.groups && (allIn 255 T.conflict && (listMay 16 Det.may T.dets && (listMay 4 Rl.may T.rails && (listMay 4 Bs.may T.buses &&
    (allIn 9999 [T.extend, T.budget, T.start, T.revert, T.least] && (allIn 2 T.flash && allIn 2147483647 [T.window, T.share])))))))

/-- Ints that lie in a block, as a row. -/
theorem ints_in {w : World} {g : Nat} {cs : Array Value} {t : TypeId} {fr : Nat × Nat} (hg : w.heap[g]? = some (.cells cs t fr)) (o n : Nat) (l : List Int) (h : (cs.toList.drop o).take n = l.map I) (hn : l.length = n) (hm : n ≤ maxLen) :
    IntRow w ⟨some ⟨g, o, none⟩, n⟩ l := by
  subst hn
  refine .inr ⟨_, rfl, Nat.le_refl _, hm, fun i v hv j u hu => ?_⟩
  cases j with
  | zero =>
    obtain rfl := Option.some.inj hu
    rw [Nat.mul_one, add_two, Nat.add_zero, Addr.add_mid]
    exact range_of hg o _ _ h i _ (by simp [hv])
  | succ j => cases hu
/-- Phases that lie at a block's head, as a row. -/
theorem phases_in {w : World} {g : Nat} {cs : Array Value} {t : TypeId} {fr : Nat × Nat} {T : Tab} {h : Hd} (hg : w.heap[g]? = some (.cells cs t fr)) (C : CellsOk T h cs) (hn : T.phases.length = 8) :
    RowOf 13 Ph.cells w ⟨some ⟨g, 0, none⟩, 8⟩ T.phases := by
  refine .inr ⟨_, rfl, by rw [hn]; exact Nat.le_refl _, (show 8 ≤ maxLen by decide), fun i v hv j u hu => ?_⟩
  rw [add_two, Addr.add_mid, Nat.zero_add, Nat.mul_comm]
  exact range_of hg (13 * i) 13 _ (C.phase i v hv) j u hu

/-- What a walk over a boxed table holds on to. -/
structure St (w : World) (N : Nat) (cs : Array Value) (h : Hd) (T : Tab) (W : World) : Prop where
  bel : Below w.heap.size w W
  blk : W.heap[N]? = some (.cells cs 45 (0, 0))
  tab : IsTab W h T
  le : w.heap.size ≤ N
theorem St.step {w W W' : World} {N : Nat} {cs : Array Value} {h : Hd} {T : Tab} (k : St w N cs h T W) (hb : Below W.heap.size W W') : St w N cs h T W' :=
  ⟨chain k.bel hb, by rw [hb.block N (Array.getElem?_eq_some_iff.1 k.blk).1]; exact k.blk, k.tab.below hb, k.le⟩
theorem St.cell {w W : World} {N : Nat} {cs : Array Value} {h : Hd} {T : Tab} (k : St w N cs h T W) {o : Nat} {v : Value} (hv : cs[o]? = some v) : W.cell? ⟨N, o, none⟩ = some v := by
  rw [cell_of_row _ _ _ _ _ _ k.blk]; exact hv
theorem St.box {w : World} {cs : Array Value} {h : Hd} {T : Tab} (k : IsTab w h T) : St w w.heap.size cs h T (w.alloc (.cells cs 45)) :=
  ⟨(Below.refl _ _).alloc (Nat.le_refl _) _, heap_alloc_new _ _, k.below ((Below.refl _ _).alloc (Nat.le_refl _) _), Nat.le_refl _⟩

theorem upto_len (m : Int) (a : Option Addr) (cap : Nat) (l : List Int) (n : Nat) (hn : l.length = n) (w : World) (h : IntRow w ⟨a, cap⟩ l) :
    Calls Try.prog 40 #[.slice a n cap, .int .i64 m] w fun e w' => e = .returned (.bool (allIn m l)) ∧ w = w' := by
  subst hn; exact upto_any m a cap l w h
end Go.Proofs.Ytbpfknkbiaplpaa.May
