/- The contracts of table.mayPhase, mayRow, mayGroup, mayDetector, mayRail, mayBus and of the document's phase, detector and rail: is a part of a table within its ranges? -/
import Derived.Test.YtbpfknkbiaplpaaRows
import Derived.Test.YtbpfknkbiaplpaaMayA
import Derived.Test.YtbpfknkbiaplpaaMayF
namespace Go.Proofs.Ytbpfknkbiaplpaa.May
open Go.ChangeShapes Go.WideShapes Go.ChangeAt Go.RowKit
open Tab MayF
set_option linter.unusedVariables false
set_option linter.unusedSimpArgs false

def Ph.may (p : Ph) : Bool := allIn 9999 [p.min, p.gap, p.max, p.top, p.step, p.yellow, p.red, p.walk, p.blinks] && allIn 3 [p.recall]
def rowMay (l : List Int) : Bool := decide (l.length ≤ 8) && allIn 7 l
def groupMay (g : List Int × List Int) : Bool := rowMay g.1 && rowMay g.2
def Det.may (d : Det) : Bool := allIn 7 [d.phase] && (level d.on && (level d.off && (span d.delay && (span d.extend && allIn 9999 [d.maxOn, d.maxOff]))))
def Rl.may (r : Rl) : Bool := allIn 255 [r.bars, r.clear, r.dwell, r.exit] && (allIn 9999 [r.delay, r.green, r.foot, r.hold, r.stay, r.most] && allIn 2147483647 [r.limit])
def Bs.may (b : Bs) : Bool := allIn 255 [b.set] && allIn 9999 [b.lock]

theorem row_new (w : World) (t : TypeId) (l : List Int) (n : Nat) (hn : l.length = n) (hm : n ≤ maxLen) (k : Nat) (hk : w.heap.size = k) : IntRow (w.alloc (.cells (l.map I).toArray t)) ⟨some ⟨k, 0, none⟩, n⟩ l := by
  subst hn hk
  refine .inr ⟨_, rfl, Nat.le_refl _, hm, fun i v hv j u hu => ?_⟩
  cases j with
  | zero =>
    obtain rfl := Option.some.inj hu
    rw [Nat.mul_one, add_two, Nat.add_zero, Addr.add_mid, Nat.zero_add]
    rw [cell_of_row _ _ _ _ _ _ (heap_alloc_new w _)]
    simp [hv]
  | succ j => cases hu

set_option maxHeartbeats 1000000 in
theorem rphase_any (p : Ph) (w : World) :
    Calls Try.prog 41 #[.agg (Ph.cells p).toArray] w fun e w' => e = .returned (.bool (Ph.may p)) ∧ Below w.heap.size w w' := by
  obtain ⟨on, min, gap, max, top, step, yellow, red, walk, blinks, recall, lock, rest⟩ := p
  show Calls Try.prog 41 #[.agg #[.bool on, I min, I gap, I max, I top, I step, I yellow, I red, I walk, I blinks, I recall, .bool lock, .bool rest]] w _
  go_enter Try.func41, Try.ntmps41
  go_wp2_with fail
  refine (times_any _ _ [min, gap, max, top, step, yellow, red, walk, blinks] _ (row_new _ _ [min, gap, max, top, step, yellow, red, walk, blinks] 9 rfl (by decide) _ (by simp))).mono ?_
  rintro e w' ⟨rfl, rfl⟩
  generalize hb1 : allIn 9999 [min, gap, max, top, step, yellow, red, walk, blinks] = b1
  have HB1 := Lib.hid hb1
  clear hb1
  cases b1
  · go_wp2
    go_ret
    exact ⟨ret_bool (by unfold Ph.may; simp only [HB1.out, Bool.true_and, Bool.false_and, Bool.and_true, Bool.and_false]), (by repeat' first | exact Below.refl _ _ | (refine Below.alloc ?_ ?_ _) | (simp; done) | (simp; omega))⟩
  go_wp2_with fail
  refine (upto_any 3 _ _ [recall] _ (row_new _ _ [recall] 1 rfl (by decide) _ (by simp))).mono ?_
  rintro e w' ⟨rfl, rfl⟩
  generalize hb2 : allIn 3 [recall] = b2
  have HB2 := Lib.hid hb2
  clear hb2
  go_wp2
  go_ret
  exact ⟨ret_bool (by unfold Ph.may; simp only [HB1.out, HB2.out, Bool.true_and, Bool.false_and, Bool.and_true, Bool.and_false]), (by repeat' first | exact Below.refl _ _ | (refine Below.alloc ?_ ?_ _) | (simp; done) | (simp; omega))⟩
set_option maxHeartbeats 1000000 in
theorem rdetector_any (d : Det) (w : World) :
    Calls Try.prog 42 #[.agg (Det.cells d).toArray] w fun e w' => e = .returned (.bool (Det.may d)) ∧ Below w.heap.size w w' := by
  obtain ⟨phase, on, off, delay, extend, maxOn, maxOff⟩ := d
  show Calls Try.prog 42 #[.agg #[I phase, F on, F off, F delay, F extend, I maxOn, I maxOff]] w _
  go_enter Try.func42, Try.ntmps42
  go_wp2_with fail
  refine (upto_any 7 _ _ [phase] _ (row_new _ _ [phase] 1 rfl (by decide) _ (by simp))).mono ?_
  rintro e w' ⟨rfl, rfl⟩
  generalize hb1 : allIn 7 [phase] = b1
  have HB1 := Lib.hid hb1
  clear hb1
  cases b1
  · go_wp2
    go_ret
    exact ⟨ret_bool (by unfold Det.may; simp only [HB1.out, Bool.true_and, Bool.false_and, Bool.and_true, Bool.and_false]), (by repeat' first | exact Below.refl _ _ | (refine Below.alloc ?_ ?_ _) | (simp; done) | (simp; omega))⟩
  go_wp2_with fail
  refine (rlevel_any on _).mono ?_
  rintro e w' ⟨rfl, rfl⟩
  generalize hb2 : level on = b2
  have HB2 := Lib.hid hb2
  clear hb2
  cases b2
  · go_wp2
    go_ret
    exact ⟨ret_bool (by unfold Det.may; simp only [HB1.out, HB2.out, Bool.true_and, Bool.false_and, Bool.and_true, Bool.and_false]), (by repeat' first | exact Below.refl _ _ | (refine Below.alloc ?_ ?_ _) | (simp; done) | (simp; omega))⟩
  go_wp2_with fail
  refine (rlevel_any off _).mono ?_
  rintro e w' ⟨rfl, rfl⟩
  generalize hb3 : level off = b3
  have HB3 := Lib.hid hb3
  clear hb3
  cases b3
  · go_wp2
    go_ret
    exact ⟨ret_bool (by unfold Det.may; simp only [HB1.out, HB2.out, HB3.out, Bool.true_and, Bool.false_and, Bool.and_true, Bool.and_false]), (by repeat' first | exact Below.refl _ _ | (refine Below.alloc ?_ ?_ _) | (simp; done) | (simp; omega))⟩
  go_wp2_with fail
  refine (rspan_any delay _).mono ?_
  rintro e w' ⟨rfl, rfl⟩
  generalize hb4 : span delay = b4
  have HB4 := Lib.hid hb4
  clear hb4
  cases b4
  · go_wp2
    go_ret
    exact ⟨ret_bool (by unfold Det.may; simp only [HB1.out, HB2.out, HB3.out, HB4.out, Bool.true_and, Bool.false_and, Bool.and_true, Bool.and_false]), (by repeat' first | exact Below.refl _ _ | (refine Below.alloc ?_ ?_ _) | (simp; done) | (simp; omega))⟩
  go_wp2_with fail
  refine (rspan_any extend _).mono ?_
  rintro e w' ⟨rfl, rfl⟩
  generalize hb5 : span extend = b5
  have HB5 := Lib.hid hb5
  clear hb5
  cases b5
  · go_wp2
    go_ret
    exact ⟨ret_bool (by unfold Det.may; simp only [HB1.out, HB2.out, HB3.out, HB4.out, HB5.out, Bool.true_and, Bool.false_and, Bool.and_true, Bool.and_false]), (by repeat' first | exact Below.refl _ _ | (refine Below.alloc ?_ ?_ _) | (simp; done) | (simp; omega))⟩
  go_wp2_with fail
  refine (times_any _ _ [maxOn, maxOff] _ (row_new _ _ [maxOn, maxOff] 2 rfl (by decide) _ (by simp))).mono ?_
  rintro e w' ⟨rfl, rfl⟩
  generalize hb6 : allIn 9999 [maxOn, maxOff] = b6
  have HB6 := Lib.hid hb6
  clear hb6
  go_wp2
  go_ret
  exact ⟨ret_bool (by unfold Det.may; simp only [HB1.out, HB2.out, HB3.out, HB4.out, HB5.out, HB6.out, Bool.true_and, Bool.false_and, Bool.and_true, Bool.and_false]), (by repeat' first | exact Below.refl _ _ | (refine Below.alloc ?_ ?_ _) | (simp; done) | (simp; omega))⟩
set_option maxHeartbeats 1000000 in
theorem rrail_any (r : Rl) (w : World) :
    Calls Try.prog 43 #[.agg (Rl.cells r).toArray] w fun e w' => e = .returned (.bool (Rl.may r)) ∧ Below w.heap.size w w' := by
  obtain ⟨bars, clear, dwell, exit, delay, green, foot, hold, stay, most, limit⟩ := r
  show Calls Try.prog 43 #[.agg #[I bars, I clear, I dwell, I exit, I delay, I green, I foot, I hold, I stay, I most, I limit]] w _
  go_enter Try.func43, Try.ntmps43
  go_wp2_with fail
  refine (upto_any 255 _ _ [bars, clear, dwell, exit] _ (row_new _ _ [bars, clear, dwell, exit] 4 rfl (by decide) _ (by simp))).mono ?_
  rintro e w' ⟨rfl, rfl⟩
  generalize hb1 : allIn 255 [bars, clear, dwell, exit] = b1
  have HB1 := Lib.hid hb1
  clear hb1
  cases b1
  · go_wp2
    go_ret
    exact ⟨ret_bool (by unfold Rl.may; simp only [HB1.out, Bool.true_and, Bool.false_and, Bool.and_true, Bool.and_false]), (by repeat' first | exact Below.refl _ _ | (refine Below.alloc ?_ ?_ _) | (simp; done) | (simp; omega))⟩
  go_wp2_with fail
  refine (times_any _ _ [delay, green, foot, hold, stay, most] _ (row_new _ _ [delay, green, foot, hold, stay, most] 6 rfl (by decide) _ (by simp))).mono ?_
  rintro e w' ⟨rfl, rfl⟩
  generalize hb2 : allIn 9999 [delay, green, foot, hold, stay, most] = b2
  have HB2 := Lib.hid hb2
  clear hb2
  cases b2
  · go_wp2
    go_ret
    exact ⟨ret_bool (by unfold Rl.may; simp only [HB1.out, HB2.out, Bool.true_and, Bool.false_and, Bool.and_true, Bool.and_false]), (by repeat' first | exact Below.refl _ _ | (refine Below.alloc ?_ ?_ _) | (simp; done) | (simp; omega))⟩
  go_wp2_with fail
  refine (upto_any 2147483647 _ _ [limit] _ (row_new _ _ [limit] 1 rfl (by decide) _ (by simp))).mono ?_
  rintro e w' ⟨rfl, rfl⟩
  generalize hb3 : allIn 2147483647 [limit] = b3
  have HB3 := Lib.hid hb3
  clear hb3
  go_wp2
  go_ret
  exact ⟨ret_bool (by unfold Rl.may; simp only [HB1.out, HB2.out, HB3.out, Bool.true_and, Bool.false_and, Bool.and_true, Bool.and_false]), (by repeat' first | exact Below.refl _ _ | (refine Below.alloc ?_ ?_ _) | (simp; done) | (simp; omega))⟩
end Go.Proofs.Ytbpfknkbiaplpaa.May
