/- The contract of the document's May, at any table: it answers as table.May does. -/
import Derived.Test.YtneaomdgjlmleaaRows
import Derived.Test.YtneaomdgjlmleaaMayD
import Derived.Deep.Cut
namespace Go.Proofs.Ytneaomdgjlmleaa.May
open Go.ChangeShapes Go.WideShapes Go.ChangeAt Go.RowKit
open Tab
set_option linter.unusedVariables false
set_option linter.unusedSimpArgs false

/-- The document's order. -/
def tabRmay (T : Tab) : Bool :=
  ((((allIn 9999 [T.extend, T.budget, T.start, T.revert, T.least] && allIn 2147483647 [T.window, T.share]) && allIn 255 T.conflict) && allIn 2 T.flash) && T.phases.all Ph.may)
theorem may_lens {T : Tab} (h : 4 < T.groups.length ∨ 16 < T.dets.length ∨ 4 < T.rails.length ∨ 4 < T.buses.length) : tabMay T = false := by
  unfold tabMay listMay
  rcases h with h | h | h | h
  · rw [decide_eq_false (p := (T.groups.length : Int) ≤ 4) (by omega)]; simp
  · rw [decide_eq_false (p := (T.dets.length : Int) ≤ 16) (by omega)]; simp
  · rw [decide_eq_false (p := (T.rails.length : Int) ≤ 4) (by omega)]; simp
  · rw [decide_eq_false (p := (T.buses.length : Int) ≤ 4) (by omega)]; simp
theorem may_group {T : Tab} {g : List Int × List Int} (h : g ∈ T.groups) (hg : groupMay g = false) : tabMay T = false := by
  have : T.groups.all groupMay = false := by rw [List.all_eq_false]; exact ⟨g, h, by simp [hg]⟩
  unfold tabMay listMay
  rw [this]; simp
theorem may_order {T : Tab} (h8 : T.phases.length = 8) (hg : ¬ 4 < T.groups.length) (hd : ¬ 16 < T.dets.length) (hr : ¬ 4 < T.rails.length) (hb : ¬ 4 < T.buses.length) (hall : T.groups.all groupMay = true) :
    tabMay T = (((tabRmay T && T.dets.all Det.may) && T.rails.all Rl.may) && T.buses.all Bs.may) := by
  unfold tabMay listMay tabRmay
  rw [hall, decide_eq_true (p := (T.phases.length : Int) ≤ 8) (by omega), decide_eq_true (p := (T.groups.length : Int) ≤ 4) (by omega), decide_eq_true (p := (T.dets.length : Int) ≤ 16) (by omega), decide_eq_true (p := (T.rails.length : Int) ≤ 4) (by omega), decide_eq_true (p := (T.buses.length : Int) ≤ 4) (by omega)]
  simp only [Bool.true_and]
  generalize T.phases.all Ph.may = p
  generalize T.dets.all Det.may = d
  generalize T.rails.all Rl.may = r
  generalize T.buses.all Bs.may = b
  generalize allIn 255 T.conflict = c
  generalize allIn 2 T.flash = f
  generalize allIn 9999 _ = x
  generalize allIn 2147483647 _ = y
  revert p d r b c f x y
  decide
theorem acc_step {α : Type} {f : α → Bool} {l : List α} {k : Nat} {v : α} {b c : Bool} (h : l[k]? = some v) (hv : f v = c) : (b && (l.take (k + 1)).all f) = ((b && (l.take k).all f) && c) := by
  rw [take_succ' l k v h, List.all_append]; simp [hv, Bool.and_assoc]
theorem acc_end {α : Type} {f : α → Bool} {l : List α} {k : Nat} {b : Bool} (h : ¬ k < l.length) : (b && (l.take k).all f) = (b && l.all f) := by
  rw [List.take_of_length_le (by omega)]

def GAll (l : List Gr) : Prop := l.all (fun v => groupMay v.data) = true
theorem GAll.step {l : List Gr} {k : Nat} {v : Gr} (h : l[k]? = some v) (hk : GAll (l.take k)) (hv : groupMay v.data = true) : GAll (l.take (k + 1)) := all_step (f := fun v : Gr => groupMay v.data) h hk hv
theorem GAll.fin {l : List Gr} {k : Nat} (hk : GAll (l.take k)) (h : ¬ k < l.length) : l.all (fun v => groupMay v.data) = true := all_end (f := fun v : Gr => groupMay v.data) hk h
theorem infoT : (Try.prog.info? 31).map (·.size) = some 131 := by kernel_rfl
end Go.Proofs.Ytneaomdgjlmleaa.May
