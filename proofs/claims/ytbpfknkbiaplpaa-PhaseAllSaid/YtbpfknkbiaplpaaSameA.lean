/- The contracts of sameValue, sameList and sameGroup at ints, rails, buses and groups, and of the document's SameInts: are two lists equal? -/
import Derived.Test.YtbpfknkbiaplpaaRows
import Derived.Test.YtbpfknkbiaplpaaMayC
import Derived.Test.YtbpfknkbiaplpaaFlat
namespace Go.Proofs.Ytbpfknkbiaplpaa.Same
open Go.ChangeShapes Go.WideShapes Go.ChangeAt Go.RowKit
open Tab
open May (ret_bool chain take_succ' infoP infoG infoD infoR infoB row_new)
set_option linter.unusedVariables false
set_option linter.unusedSimpArgs false

theorem eq_step {α : Type} {l m : List α} {k : Nat} {v u : α} (h : l[k]? = some v) (h' : m[k]? = some u) (e : l.take k = m.take k) (hv : v = u) : l.take (k + 1) = m.take (k + 1) := by
  rw [take_succ' l k v h, take_succ' m k u h', e, hv]
theorem eq_break {α : Type} {l m : List α} {k : Nat} {v u : α} (h : l[k]? = some v) (h' : m[k]? = some u) (hv : ¬ v = u) : ¬ l = m := by
  rintro rfl; rw [h] at h'; exact hv (Option.some.inj h')
theorem eq_end {α : Type} {l m : List α} {k : Nat} (e : l.take k = m.take k) (hl : l.length = m.length) (hk : ¬ k < l.length) : l = m := by
  rwa [List.take_of_length_le (by omega), List.take_of_length_le (by omega)] at e

end Go.Proofs.Ytbpfknkbiaplpaa.Same
