/- The contracts of table.mayPhase, mayRow, mayGroup, mayDetector, mayRail, mayBus and of the document's phase, detector and rail: is a part of a table within its ranges? -/
import Derived.Test.YtfnpcfibgabmfaaRows
import Derived.Test.YtfnpcfibgabmfaaMayA
import Derived.Test.YtfnpcfibgabmfaaMayF
namespace Go.Proofs.Ytfnpcfibgabmfaa.May
open Go.ChangeShapes Go.WideShapes Go.ChangeAt Go.RowKit
open Tab MayF
set_option linter.unusedVariables false
set_option linter.unusedSimpArgs false

def Ph.may (p : Ph) : Bool := allIn 9999 [p.min, p.gap, p.max, p.top, p.step, p.yellow, p.red, p.walk, p.blinks] && allIn 3 [p.recall]
def rowMay (l : List Int) : Bool := decide (l.length ≤ 8) && allIn 7 l
def groupMay (g : List Int × List Int) : Bool := rowMay g.1 && rowMay g.2
def Det.may (d : Det) : Bool := allIn 7 [d.phase] && (level d.on && (level d.off && (span d.delay && (span d.extend && allIn 9999 [d.maxOn, d.maxOff]))))
def Rl.may (r : Rl) : Bool := allIn 255 [r.bars, r.clear, r.dwell, r.exit] && (allIn 9999 [r.delay, r.green, r.foot, r.hold, r.stay, r.most] && allIn 2147483647 [r.limit])
def Bs.may (b : Bs) : Bool := allIn 255 [b.set] && allIn 9999 [b.lock]

theorem row_new (w : World) (t : TypeId) (l : List Int) (n : Nat) (hn : l.length = n) (hm : n ≤ maxLen) (k : Nat) (hk : w.heap.size = k) : IntRow (w.alloc (.cells (l.map I).toArray t)) ⟨some ⟨k, 0, none⟩, n⟩ l := by
  subst hn hk
  refine .inr ⟨_, rfl, Nat.le_refl _, hm, fun i v hv j u hu => ?_⟩
  cases j with
  | zero =>
    obtain rfl := Option.some.inj hu
    rw [Nat.mul_one, add_two, Nat.add_zero, Addr.add_mid, Nat.zero_add]
    rw [cell_of_row _ _ _ _ _ _ (heap_alloc_new w _)]
    simp [hv]
  | succ j => cases hu

set_option maxHeartbeats 1000000 in
theorem mayPhase_any (p : Ph) (w : World) :
    Calls Try.prog 48 #[.agg (Ph.cells p).toArray] w fun e w' => e = .returned (.bool (Ph.may p)) ∧ Below w.heap.size w w' := by
  obtain ⟨on, min, gap, max, top, step, yellow, red, walk, blinks, recall, lock, rest⟩ := p
  show Calls Try.prog 48 #[.agg #[.bool on, I min, I gap, I max, I top, I step, I yellow, I red, I walk, I blinks, I recall, .bool lock, .bool rest]] w _
  go_enter Try.func48, Try.ntmps48
  go_wp2_with fail
  refine (within_any 9999 _ _ [min, gap, max, top, step, yellow, red, walk, blinks] _ (row_new _ _ [min, gap, max, top, step, yellow, red, walk, blinks] 9 rfl (by decide) _ (by simp))).mono ?_
  rintro e w' ⟨rfl, rfl⟩
  generalize hb1 : allIn 9999 [min, gap, max, top, step, yellow, red, walk, blinks] = b1
  have HB1 := Lib.hid hb1
  clear hb1
  cases b1
  · go_wp2
    go_ret
    exact ⟨ret_bool (by unfold Ph.may; simp only [HB1.out, Bool.true_and, Bool.false_and, Bool.and_true, Bool.and_false]), (by repeat' first | exact Below.refl _ _ | (refine Below.alloc ?_ ?_ _) | (simp; done) | (simp; omega))⟩
  go_wp2_with fail
  refine (within_any 3 _ _ [recall] _ (row_new _ _ [recall] 1 rfl (by decide) _ (by simp))).mono ?_
  rintro e w' ⟨rfl, rfl⟩
  generalize hb2 : allIn 3 [recall] = b2
  have HB2 := Lib.hid hb2
  clear hb2
  go_wp2
  go_ret
  exact ⟨ret_bool (by unfold Ph.may; simp only [HB1.out, HB2.out, Bool.true_and, Bool.false_and, Bool.and_true, Bool.and_false]), (by repeat' first | exact Below.refl _ _ | (refine Below.alloc ?_ ?_ _) | (simp; done) | (simp; omega))⟩
set_option maxHeartbeats 1000000 in
theorem rphase_any (p : Ph) (w : World) :
    Calls Try.prog 60 #[.agg (Ph.cells p).toArray] w fun e w' => e = .returned (.bool (Ph.may p)) ∧ Below w.heap.size w w' := by
  obtain ⟨on, min, gap, max, top, step, yellow, red, walk, blinks, recall, lock, rest⟩ := p
  show Calls Try.prog 60 #[.agg #[.bool on, I min, I gap, I max, I top, I step, I yellow, I red, I walk, I blinks, I recall, .bool lock, .bool rest]] w _
  go_enter Try.func60, Try.ntmps60
  go_wp2_with fail
  refine (times_any _ _ [min, gap, max, top, step, yellow, red, walk, blinks] _ (row_new _ _ [min, gap, max, top, step, yellow, red, walk, blinks] 9 rfl (by decide) _ (by simp))).mono ?_
  rintro e w' ⟨rfl, rfl⟩
  generalize hb1 : allIn 9999 [min, gap, max, top, step, yellow, red, walk, blinks] = b1
  have HB1 := Lib.hid hb1
  clear hb1
  cases b1
  · go_wp2
    go_ret
    exact ⟨ret_bool (by unfold Ph.may; simp only [HB1.out, Bool.true_and, Bool.false_and, Bool.and_true, Bool.and_false]), (by repeat' first | exact Below.refl _ _ | (refine Below.alloc ?_ ?_ _) | (simp; done) | (simp; omega))⟩
  go_wp2_with fail
  refine (upto_any 3 _ _ [recall] _ (row_new _ _ [recall] 1 rfl (by decide) _ (by simp))).mono ?_
  rintro e w' ⟨rfl, rfl⟩
  generalize hb2 : allIn 3 [recall] = b2
  have HB2 := Lib.hid hb2
  clear hb2
  go_wp2
  go_ret
  exact ⟨ret_bool (by unfold Ph.may; simp only [HB1.out, HB2.out, Bool.true_and, Bool.false_and, Bool.and_true, Bool.and_false]), (by repeat' first | exact Below.refl _ _ | (refine Below.alloc ?_ ?_ _) | (simp; done) | (simp; omega))⟩
set_option maxHeartbeats 1000000 in
theorem mayDetector_any (d : Det) (w : World) :
    Calls Try.prog 53 #[.agg (Det.cells d).toArray] w fun e w' => e = .returned (.bool (Det.may d)) ∧ Below w.heap.size w w' := by
  obtain ⟨phase, on, off, delay, extend, maxOn, maxOff⟩ := d
  show Calls Try.prog 53 #[.agg #[I phase, F on, F off, F delay, F extend, I maxOn, I maxOff]] w _
  go_enter Try.func53, Try.ntmps53
  go_wp2_with fail
  refine (within_any 7 _ _ [phase] _ (row_new _ _ [phase] 1 rfl (by decide) _ (by simp))).mono ?_
  rintro e w' ⟨rfl, rfl⟩
  generalize hb1 : allIn 7 [phase] = b1
  have HB1 := Lib.hid hb1
  clear hb1
  cases b1
  · go_wp2
    go_ret
    exact ⟨ret_bool (by unfold Det.may; simp only [HB1.out, Bool.true_and, Bool.false_and, Bool.and_true, Bool.and_false]), (by repeat' first | exact Below.refl _ _ | (refine Below.alloc ?_ ?_ _) | (simp; done) | (simp; omega))⟩
  go_wp2_with fail
  refine (level_any on _).mono ?_
  rintro e w' ⟨rfl, rfl⟩
  generalize hb2 : level on = b2
  have HB2 := Lib.hid hb2
  clear hb2
  cases b2
  · go_wp2
    go_ret
    exact ⟨ret_bool (by unfold Det.may; simp only [HB1.out, HB2.out, Bool.true_and, Bool.false_and, Bool.and_true, Bool.and_false]), (by repeat' first | exact Below.refl _ _ | (refine Below.alloc ?_ ?_ _) | (simp; done) | (simp; omega))⟩
  go_wp2_with fail
  refine (level_any off _).mono ?_
  rintro e w' ⟨rfl, rfl⟩
  generalize hb3 : level off = b3
  have HB3 := Lib.hid hb3
  clear hb3
  cases b3
  · go_wp2
    go_ret
    exact ⟨ret_bool (by unfold Det.may; simp only [HB1.out, HB2.out, HB3.out, Bool.true_and, Bool.false_and, Bool.and_true, Bool.and_false]), (by repeat' first | exact Below.refl _ _ | (refine Below.alloc ?_ ?_ _) | (simp; done) | (simp; omega))⟩
  go_wp2_with fail
  refine (span_any delay _).mono ?_
  rintro e w' ⟨rfl, rfl⟩
  generalize hb4 : span delay = b4
  have HB4 := Lib.hid hb4
  clear hb4
  cases b4
  · go_wp2
    go_ret
    exact ⟨ret_bool (by unfold Det.may; simp only [HB1.out, HB2.out, HB3.out, HB4.out, Bool.true_and, Bool.false_and, Bool.and_true, Bool.and_false]), (by repeat' first | exact Below.refl _ _ | (refine Below.alloc ?_ ?_ _) | (simp; done) | (simp; omega))⟩
  go_wp2_with fail
  refine (span_any extend _).mono ?_
  rintro e w' ⟨rfl, rfl⟩
  generalize hb5 : span extend = b5
  have HB5 := Lib.hid hb5
  clear hb5
  cases b5
  · go_wp2
    go_ret
    exact ⟨ret_bool (by unfold Det.may; simp only [HB1.out, HB2.out, HB3.out, HB4.out, HB5.out, Bool.true_and, Bool.false_and, Bool.and_true, Bool.and_false]), (by repeat' first | exact Below.refl _ _ | (refine Below.alloc ?_ ?_ _) | (simp; done) | (simp; omega))⟩
  go_wp2_with fail
  refine (within_any 9999 _ _ [maxOn, maxOff] _ (row_new _ _ [maxOn, maxOff] 2 rfl (by decide) _ (by simp))).mono ?_
  rintro e w' ⟨rfl, rfl⟩
  generalize hb6 : allIn 9999 [maxOn, maxOff] = b6
  have HB6 := Lib.hid hb6
  clear hb6
  go_wp2
  go_ret
  exact ⟨ret_bool (by unfold Det.may; simp only [HB1.out, HB2.out, HB3.out, HB4.out, HB5.out, HB6.out, Bool.true_and, Bool.false_and, Bool.and_true, Bool.and_false]), (by repeat' first | exact Below.refl _ _ | (refine Below.alloc ?_ ?_ _) | (simp; done) | (simp; omega))⟩
set_option maxHeartbeats 1000000 in
theorem rdetector_any (d : Det) (w : World) :
    Calls Try.prog 61 #[.agg (Det.cells d).toArray] w fun e w' => e = .returned (.bool (Det.may d)) ∧ Below w.heap.size w w' := by
  obtain ⟨phase, on, off, delay, extend, maxOn, maxOff⟩ := d
  show Calls Try.prog 61 #[.agg #[I phase, F on, F off, F delay, F extend, I maxOn, I maxOff]] w _
  go_enter Try.func61, Try.ntmps61
  go_wp2_with fail
  refine (upto_any 7 _ _ [phase] _ (row_new _ _ [phase] 1 rfl (by decide) _ (by simp))).mono ?_
  rintro e w' ⟨rfl, rfl⟩
  generalize hb1 : allIn 7 [phase] = b1
  have HB1 := Lib.hid hb1
  clear hb1
  cases b1
  · go_wp2
    go_ret
    exact ⟨ret_bool (by unfold Det.may; simp only [HB1.out, Bool.true_and, Bool.false_and, Bool.and_true, Bool.and_false]), (by repeat' first | exact Below.refl _ _ | (refine Below.alloc ?_ ?_ _) | (simp; done) | (simp; omega))⟩
  go_wp2_with fail
  refine (rlevel_any on _).mono ?_
  rintro e w' ⟨rfl, rfl⟩
  generalize hb2 : level on = b2
  have HB2 := Lib.hid hb2
  clear hb2
  cases b2
  · go_wp2
    go_ret
    exact ⟨ret_bool (by unfold Det.may; simp only [HB1.out, HB2.out, Bool.true_and, Bool.false_and, Bool.and_true, Bool.and_false]), (by repeat' first | exact Below.refl _ _ | (refine Below.alloc ?_ ?_ _) | (simp; done) | (simp; omega))⟩
  go_wp2_with fail
  refine (rlevel_any off _).mono ?_
  rintro e w' ⟨rfl, rfl⟩
  generalize hb3 : level off = b3
  have HB3 := Lib.hid hb3
  clear hb3
  cases b3
  · go_wp2
    go_ret
    exact ⟨ret_bool (by unfold Det.may; simp only [HB1.out, HB2.out, HB3.out, Bool.true_and, Bool.false_and, Bool.and_true, Bool.and_false]), (by repeat' first | exact Below.refl _ _ | (refine Below.alloc ?_ ?_ _) | (simp; done) | (simp; omega))⟩
  go_wp2_with fail
  refine (rspan_any delay _).mono ?_
  rintro e w' ⟨rfl, rfl⟩
  generalize hb4 : span delay = b4
  have HB4 := Lib.hid hb4
  clear hb4
  cases b4
  · go_wp2
    go_ret
    exact ⟨ret_bool (by unfold Det.may; simp only [HB1.out, HB2.out, HB3.out, HB4.out, Bool.true_and, Bool.false_and, Bool.and_true, Bool.and_false]), (by repeat' first | exact Below.refl _ _ | (refine Below.alloc ?_ ?_ _) | (simp; done) | (simp; omega))⟩
  go_wp2_with fail
  refine (rspan_any extend _).mono ?_
  rintro e w' ⟨rfl, rfl⟩
  generalize hb5 : span extend = b5
  have HB5 := Lib.hid hb5
  clear hb5
  cases b5
  · go_wp2
    go_ret
    exact ⟨ret_bool (by unfold Det.may; simp only [HB1.out, HB2.out, HB3.out, HB4.out, HB5.out, Bool.true_and, Bool.false_and, Bool.and_true, Bool.and_false]), (by repeat' first | exact Below.refl _ _ | (refine Below.alloc ?_ ?_ _) | (simp; done) | (simp; omega))⟩
  go_wp2_with fail
  refine (times_any _ _ [maxOn, maxOff] _ (row_new _ _ [maxOn, maxOff] 2 rfl (by decide) _ (by simp))).mono ?_
  rintro e w' ⟨rfl, rfl⟩
  generalize hb6 : allIn 9999 [maxOn, maxOff] = b6
  have HB6 := Lib.hid hb6
  clear hb6
  go_wp2
  go_ret
  exact ⟨ret_bool (by unfold Det.may; simp only [HB1.out, HB2.out, HB3.out, HB4.out, HB5.out, HB6.out, Bool.true_and, Bool.false_and, Bool.and_true, Bool.and_false]), (by repeat' first | exact Below.refl _ _ | (refine Below.alloc ?_ ?_ _) | (simp; done) | (simp; omega))⟩
set_option maxHeartbeats 1000000 in
theorem mayRail_any (r : Rl) (w : World) :
    Calls Try.prog 55 #[.agg (Rl.cells r).toArray] w fun e w' => e = .returned (.bool (Rl.may r)) ∧ Below w.heap.size w w' := by
  obtain ⟨bars, clear, dwell, exit, delay, green, foot, hold, stay, most, limit⟩ := r
  show Calls Try.prog 55 #[.agg #[I bars, I clear, I dwell, I exit, I delay, I green, I foot, I hold, I stay, I most, I limit]] w _
  go_enter Try.func55, Try.ntmps55
  go_wp2_with fail
  refine (within_any 255 _ _ [bars, clear, dwell, exit] _ (row_new _ _ [bars, clear, dwell, exit] 4 rfl (by decide) _ (by simp))).mono ?_
  rintro e w' ⟨rfl, rfl⟩
  generalize hb1 : allIn 255 [bars, clear, dwell, exit] = b1
  have HB1 := Lib.hid hb1
  clear hb1
  cases b1
  · go_wp2
    go_ret
    exact ⟨ret_bool (by unfold Rl.may; simp only [HB1.out, Bool.true_and, Bool.false_and, Bool.and_true, Bool.and_false]), (by repeat' first | exact Below.refl _ _ | (refine Below.alloc ?_ ?_ _) | (simp; done) | (simp; omega))⟩
  go_wp2_with fail
  refine (within_any 9999 _ _ [delay, green, foot, hold, stay, most] _ (row_new _ _ [delay, green, foot, hold, stay, most] 6 rfl (by decide) _ (by simp))).mono ?_
  rintro e w' ⟨rfl, rfl⟩
  generalize hb2 : allIn 9999 [delay, green, foot, hold, stay, most] = b2
  have HB2 := Lib.hid hb2
  clear hb2
  cases b2
  · go_wp2
    go_ret
    exact ⟨ret_bool (by unfold Rl.may; simp only [HB1.out, HB2.out, Bool.true_and, Bool.false_and, Bool.and_true, Bool.and_false]), (by repeat' first | exact Below.refl _ _ | (refine Below.alloc ?_ ?_ _) | (simp; done) | (simp; omega))⟩
  go_wp2_with fail
  refine (within_any 2147483647 _ _ [limit] _ (row_new _ _ [limit] 1 rfl (by decide) _ (by simp))).mono ?_
  rintro e w' ⟨rfl, rfl⟩
  generalize hb3 : allIn 2147483647 [limit] = b3
  have HB3 := Lib.hid hb3
  clear hb3
  go_wp2
  go_ret
  exact ⟨ret_bool (by unfold Rl.may; simp only [HB1.out, HB2.out, HB3.out, Bool.true_and, Bool.false_and, Bool.and_true, Bool.and_false]), (by repeat' first | exact Below.refl _ _ | (refine Below.alloc ?_ ?_ _) | (simp; done) | (simp; omega))⟩
set_option maxHeartbeats 1000000 in
theorem rrail_any (r : Rl) (w : World) :
    Calls Try.prog 62 #[.agg (Rl.cells r).toArray] w fun e w' => e = .returned (.bool (Rl.may r)) ∧ Below w.heap.size w w' := by
  obtain ⟨bars, clear, dwell, exit, delay, green, foot, hold, stay, most, limit⟩ := r
  show Calls Try.prog 62 #[.agg #[I bars, I clear, I dwell, I exit, I delay, I green, I foot, I hold, I stay, I most, I limit]] w _
  go_enter Try.func62, Try.ntmps62
  go_wp2_with fail
  refine (upto_any 255 _ _ [bars, clear, dwell, exit] _ (row_new _ _ [bars, clear, dwell, exit] 4 rfl (by decide) _ (by simp))).mono ?_
  rintro e w' ⟨rfl, rfl⟩
  generalize hb1 : allIn 255 [bars, clear, dwell, exit] = b1
  have HB1 := Lib.hid hb1
  clear hb1
  cases b1
  · go_wp2
    go_ret
    exact ⟨ret_bool (by unfold Rl.may; simp only [HB1.out, Bool.true_and, Bool.false_and, Bool.and_true, Bool.and_false]), (by repeat' first | exact Below.refl _ _ | (refine Below.alloc ?_ ?_ _) | (simp; done) | (simp; omega))⟩
  go_wp2_with fail
  refine (times_any _ _ [delay, green, foot, hold, stay, most] _ (row_new _ _ [delay, green, foot, hold, stay, most] 6 rfl (by decide) _ (by simp))).mono ?_
  rintro e w' ⟨rfl, rfl⟩
  generalize hb2 : allIn 9999 [delay, green, foot, hold, stay, most] = b2
  have HB2 := Lib.hid hb2
  clear hb2
  cases b2
  · go_wp2
    go_ret
    exact ⟨ret_bool (by unfold Rl.may; simp only [HB1.out, HB2.out, Bool.true_and, Bool.false_and, Bool.and_true, Bool.and_false]), (by repeat' first | exact Below.refl _ _ | (refine Below.alloc ?_ ?_ _) | (simp; done) | (simp; omega))⟩
  go_wp2_with fail
  refine (upto_any 2147483647 _ _ [limit] _ (row_new _ _ [limit] 1 rfl (by decide) _ (by simp))).mono ?_
  rintro e w' ⟨rfl, rfl⟩
  generalize hb3 : allIn 2147483647 [limit] = b3
  have HB3 := Lib.hid hb3
  clear hb3
  go_wp2
  go_ret
  exact ⟨ret_bool (by unfold Rl.may; simp only [HB1.out, HB2.out, HB3.out, Bool.true_and, Bool.false_and, Bool.and_true, Bool.and_false]), (by repeat' first | exact Below.refl _ _ | (refine Below.alloc ?_ ?_ _) | (simp; done) | (simp; omega))⟩
set_option maxHeartbeats 1000000 in
theorem mayBus_any (b : Bs) (w : World) :
    Calls Try.prog 57 #[.agg (Bs.cells b).toArray] w fun e w' => e = .returned (.bool (Bs.may b)) ∧ Below w.heap.size w w' := by
  obtain ⟨set, lock⟩ := b
  show Calls Try.prog 57 #[.agg #[I set, I lock]] w _
  go_enter Try.func57, Try.ntmps57
  go_wp2_with fail
  refine (within_any 255 _ _ [set] _ (row_new _ _ [set] 1 rfl (by decide) _ (by simp))).mono ?_
  rintro e w' ⟨rfl, rfl⟩
  generalize hb1 : allIn 255 [set] = b1
  have HB1 := Lib.hid hb1
  clear hb1
  cases b1
  · go_wp2
    go_ret
    exact ⟨ret_bool (by unfold Bs.may; simp only [HB1.out, Bool.true_and, Bool.false_and, Bool.and_true, Bool.and_false]), (by repeat' first | exact Below.refl _ _ | (refine Below.alloc ?_ ?_ _) | (simp; done) | (simp; omega))⟩
  go_wp2_with fail
  refine (within_any 9999 _ _ [lock] _ (row_new _ _ [lock] 1 rfl (by decide) _ (by simp))).mono ?_
  rintro e w' ⟨rfl, rfl⟩
  generalize hb2 : allIn 9999 [lock] = b2
  have HB2 := Lib.hid hb2
  clear hb2
  go_wp2
  go_ret
  exact ⟨ret_bool (by unfold Bs.may; simp only [HB1.out, HB2.out, Bool.true_and, Bool.false_and, Bool.and_true, Bool.and_false]), (by repeat' first | exact Below.refl _ _ | (refine Below.alloc ?_ ?_ _) | (simp; done) | (simp; omega))⟩
theorem mayRow_any (a : Option Addr) (cap : Nat) (l : List Int) (w : World) (h : IntRow w ⟨a, cap⟩ l) :
    Calls Try.prog 88 #[.slice a l.length cap] w fun e w' => e = .returned (.bool (rowMay l)) ∧ w = w' := by
  have h1 := h.len
  unfold maxLen at h1
  have Hr := Lib.hid h
  clear h
  by_cases h8 : l.length ≤ 8
  · go_enter Try.func88, Try.ntmps88
    go_wp2_with (go_at_call 51; refine (within_any _ _ _ _ _ Hr.out).mono ?_; rintro e w' ⟨rfl, rfl⟩)
    go_ret
    exact ⟨ret_bool (by unfold rowMay; rw [decide_eq_true h8, Bool.true_and]), rfl⟩
  · go_enter Try.func88, Try.ntmps88
    go_wp2
    go_ret
    exact ⟨ret_bool (by unfold rowMay; rw [decide_eq_false h8, Bool.false_and]), rfl⟩
theorem mayGroup_any (g : Gr) (w : World) (h : g.ok w) :
    Calls Try.prog 50 #[.agg g.cells.toArray] w fun e w' => e = .returned (.bool (groupMay g.data)) ∧ Below w.heap.size w w' := by
  obtain ⟨l0, l1, ⟨a0, cap0⟩, ⟨a1, cap1⟩⟩ := g
  have H0 := Lib.hid h.1
  have H1 := Lib.hid h.2
  clear h
  show Calls Try.prog 50 #[.agg #[.slice a0 l0.length cap0, .slice a1 l1.length cap1]] w _
  go_enter Try.func50, Try.ntmps50
  go_wp2_with fail
  refine (mayRow_any a0 cap0 l0 _ (H0.out.below ((Below.refl _ _).alloc (Nat.le_refl _) _))).mono ?_
  rintro e w' ⟨rfl, rfl⟩
  generalize hb1 : rowMay l0 = b1
  have HB1 := Lib.hid hb1
  clear hb1
  cases b1
  · go_wp2
    go_ret
    exact ⟨ret_bool (by unfold groupMay; simp only [Gr.data, HB1.out, Bool.true_and, Bool.false_and, Bool.and_true, Bool.and_false]), (by repeat' first | exact Below.refl _ _ | (refine Below.alloc ?_ ?_ _) | (simp; done) | (simp; omega))⟩
  go_wp2_with fail
  refine (mayRow_any a1 cap1 l1 _ (H1.out.below ((Below.refl _ _).alloc (Nat.le_refl _) _))).mono ?_
  rintro e w' ⟨rfl, rfl⟩
  generalize hb2 : rowMay l1 = b2
  have HB2 := Lib.hid hb2
  clear hb2
  go_wp2
  go_ret
  exact ⟨ret_bool (by unfold groupMay; simp only [Gr.data, HB1.out, HB2.out, Bool.true_and, Bool.false_and, Bool.and_true, Bool.and_false]), (by repeat' first | exact Below.refl _ _ | (refine Below.alloc ?_ ?_ _) | (simp; done) | (simp; omega))⟩
end Go.Proofs.Ytfnpcfibgabmfaa.May
