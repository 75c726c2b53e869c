/- The contracts of table.within and of the document's times and upto: are all numbers from 0 to a bound? -/
import Derived.Test.YtbmkkkkknofbaaaRows
import Derived.Test.YtbmkkkkknofbaaaTab
import Derived.WalkKit
import Derived.ProofKit
import Derived.IntWalk
import Derived.Lib.Hide
import Derived.LoopTactic
import Derived.Below
namespace Go.Proofs.Ytbmkkkkknofbaaa.May
open Go.ChangeShapes Go.WideShapes Go.ChangeAt Go.RowKit
open Tab
set_option linter.unusedVariables false
set_option linter.unusedSimpArgs false

theorem ret_bool {a b : Bool} (h : a = b) : Ending.returned (.bool a) = .returned (.bool b) := by rw [h]
/-- Are all numbers from 0 to m? -/
def inB (m : Int) (n : Int) : Bool := decide (0 ≤ n) && decide (n ≤ m)
def allIn (m : Int) (l : List Int) : Bool := l.all (inB m)
theorem take_succ' {α : Type} (l : List α) (k : Nat) (v : α) (h : l[k]? = some v) : l.take (k + 1) = l.take k ++ [v] := by
  rw [List.take_add_one, h]; rfl
theorem all_step {α : Type} {f : α → Bool} {l : List α} {k : Nat} {v : α} (h : l[k]? = some v) (hk : (l.take k).all f = true) (hv : f v = true) : (l.take (k + 1)).all f = true := by
  rw [take_succ' l k v h, List.all_append, hk]; simp [hv]
theorem all_break {α : Type} {f : α → Bool} {l : List α} {k : Nat} {v : α} (h : l[k]? = some v) (hv : f v = false) : l.all f = false := by
  rw [List.all_eq_false]; exact ⟨v, List.mem_of_getElem? h, by simp [hv]⟩
theorem all_end {α : Type} {f : α → Bool} {l : List α} {k : Nat} (hk : (l.take k).all f = true) (h : ¬ k < l.length) : l.all f = true := by
  rwa [List.take_of_length_le (by omega)] at hk

end Go.Proofs.Ytbmkkkkknofbaaa.May
