/- 12 texts in one file, in build order. -/
import Derived.Test.YtambpohphbdhcaaRows
import Derived.Test.YtambpohphbdhcaaPart01
import Derived.LoopTactic
import Derived.Deep.RegionHeld
import Derived.Great.BuildSlice
import Derived.Deep.Cut
import Derived.OwnWalk
import Derived.Laws.CopyOwn
set_option linter.unusedVariables false
set_option linter.unusedSimpArgs false
set_option linter.unusedSectionVars false
set_option maxHeartbeats 8000000
set_option maxRecDepth 100000
namespace Go.Proofs.Ytambpohphbdhcaa
namespace MayF
open Go.ChangeShapes Go.WideShapes Go.ChangeAt Go.RowKit Go.Proofs.Fl
open Secs
/-- A float's sign, as Signbit asks for it. -/
def neg (x : Nat) : Bool := decide (wrap64 (x : Int) < 0)
theorem signbit_any (x : Nat) (w : World) : Calls Try.prog 76 #[.float .f64 x] w fun e w' => e = .returned (.bool (neg x)) ∧ w = w' := by
  have hb := bits_call x
  go_enter Try.func76, Try.ntmps76
  go_wp2_with (simp only [hb])
  go_ret
  exact ⟨rfl, rfl⟩
theorem bits_any (x : Nat) (w : World) : Calls Try.prog 33 #[.float .f64 x] w fun e w' => e = .returned (.int .u64 x) ∧ w = w' := by
  have hb := bits_call x
  go_enter Try.func33, Try.ntmps33
  go_wp2_with (simp only [hb])
  go_ret
  exact ⟨rfl, rfl⟩
/-- A level. -/
def level (x : Nat) : Bool := !isn x && decide (0 < key x) && decide (key x ≤ 4696837146684686336)
theorem keyM : key 4696837146684686336 = 4696837146684686336 := by decide
theorem isnM : isn 4696837146684686336 = false := by decide
theorem level_any (x : Nat) (w : World) : Calls Try.prog 70 #[.float .f64 x] w fun e w' => e = .returned (.bool (level x)) ∧ w = w' := by
  cases hn : isn x
  · have h0 := ord_cases x 0 hn isn0
    have hT := ord_cases x 4696837146684686336 hn isnM
    rw [key0] at h0
    rw [keyM] at hT
    have HN := Lib.hid hn
    clear hn
    rcases h0 with ⟨a, ho⟩ | ⟨a, ho⟩ | ⟨a, ho⟩
    all_goals rcases hT with ⟨b, ho2⟩ | ⟨b, ho2⟩ | ⟨b, ho2⟩
    all_goals
      have HA := Lib.hid a
      have HB := Lib.hid b
      clear a b
      go_enter Try.func70, Try.ntmps70
      go_wp2
      go_ret
      have a := HA.out
      have b := HB.out
      exact ⟨ret_bool (by unfold level; rw [HN.out]; first | (rw [decide_eq_true (by omega), decide_eq_true (by omega)]; rfl) | (rw [decide_eq_false (by omega)]; simp) | (rw [decide_eq_false (p := key x ≤ _) (by omega)]; simp)), rfl⟩
  · have ho := ord_nan x 0 (.inl hn)
    have ho2 := ord_nan x 4696837146684686336 (.inl hn)
    have HN := Lib.hid hn
    clear hn
    go_enter Try.func70, Try.ntmps70
    go_wp2
    go_ret
    exact ⟨ret_bool (by unfold level; rw [HN.out]; rfl), rfl⟩
/-- Seconds. -/
def span (x : Nat) : Bool := ok x && !neg x
theorem span_any (x : Nat) (w : World) : Calls Try.prog 71 #[.float .f64 x] w fun e w' => e = .returned (.bool (span x)) ∧ w = w' := by
  cases hk : ok x
  · have HK := Lib.hid hk
    clear hk
    go_enter Try.func71, Try.ntmps71
    go_wp2_with (go_at_call 75; refine (ticks_no quo_holds HK.out _).mono ?_; rintro e w' ⟨rfl, rfl⟩)
    go_ret
    exact ⟨ret_bool (by unfold span; rw [HK.out, Bool.false_and]), rfl⟩
  · have HK := Lib.hid hk
    clear hk
    go_enter Try.func71, Try.ntmps71
    go_wp2_with (first | (go_at_call 75; refine (ticks_yes quo_holds HK.out _).mono ?_; rintro e w' ⟨rfl, rfl⟩) | (go_at_call 76; refine (signbit_any _ _).mono ?_; rintro e w' ⟨rfl, rfl⟩))
    go_ret
    exact ⟨ret_bool (by unfold span; rw [HK.out, Bool.true_and]), rfl⟩
end MayF
namespace May
open Go.ChangeShapes Go.WideShapes Go.ChangeAt Go.RowKit
open Tab MayF
def Ph.may (p : Ph) : Bool := allIn 9999 [p.min, p.gap, p.max, p.top, p.step, p.yellow, p.red, p.walk, p.blinks] && allIn 3 [p.recall]
def rowMay (l : List Int) : Bool := decide (l.length ≤ 8) && allIn 7 l
def groupMay (g : List Int × List Int) : Bool := rowMay g.1 && rowMay g.2
def Det.may (d : Det) : Bool := allIn 7 [d.phase] && (level d.on && (level d.off && (span d.delay && (span d.extend && allIn 9999 [d.maxOn, d.maxOff]))))
def Rl.may (r : Rl) : Bool := allIn 255 [r.bars, r.clear, r.dwell, r.exit] && (allIn 9999 [r.delay, r.green, r.foot, r.hold, r.stay, r.most] && allIn 2147483647 [r.limit])
def Bs.may (b : Bs) : Bool := allIn 255 [b.set] && allIn 9999 [b.lock]
theorem row_new (w : World) (t : TypeId) (l : List Int) (n : Nat) (hn : l.length = n) (hm : n ≤ maxLen) (k : Nat) (hk : w.heap.size = k) : IntRow (w.alloc (.cells (l.map I).toArray t)) ⟨some ⟨k, 0, none⟩, n⟩ l := by
  subst hn hk
  refine .inr ⟨_, rfl, Nat.le_refl _, hm, fun i v hv j u hu => ?_⟩
  cases j with
  | zero =>
    obtain rfl := Option.some.inj hu
    rw [Nat.mul_one, add_two, Nat.add_zero, Addr.add_mid, Nat.zero_add]
    rw [cell_of_row _ _ _ _ _ _ (heap_alloc_new w _)]
    simp [hv]
  | succ j => cases hu
theorem mayPhase_any (p : Ph) (w : World) :
    Calls Try.prog 50 #[.agg (Ph.cells p).toArray] w fun e w' => e = .returned (.bool (Ph.may p)) ∧ Below w.heap.size w w' := by
  obtain ⟨on, min, gap, max, top, step, yellow, red, walk, blinks, recall, lock, rest⟩ := p
  show Calls Try.prog 50 #[.agg #[.bool on, I min, I gap, I max, I top, I step, I yellow, I red, I walk, I blinks, I recall, .bool lock, .bool rest]] w _
  go_enter Try.func50, Try.ntmps50
  go_wp2_with fail
  refine (within_any 9999 _ _ [min, gap, max, top, step, yellow, red, walk, blinks] _ (row_new _ _ [min, gap, max, top, step, yellow, red, walk, blinks] 9 rfl (by decide) _ (by simp))).mono ?_
  rintro e w' ⟨rfl, rfl⟩
  generalize hb1 : allIn 9999 [min, gap, max, top, step, yellow, red, walk, blinks] = b1
  have HB1 := Lib.hid hb1
  clear hb1
  cases b1
  · go_wp2
    go_ret
    exact ⟨ret_bool (by unfold Ph.may; simp only [HB1.out, Bool.true_and, Bool.false_and, Bool.and_true, Bool.and_false]), (by repeat' first | exact Below.refl _ _ | (refine Below.alloc ?_ ?_ _) | (simp; done) | (simp; omega))⟩
  go_wp2_with fail
  refine (within_any 3 _ _ [recall] _ (row_new _ _ [recall] 1 rfl (by decide) _ (by simp))).mono ?_
  rintro e w' ⟨rfl, rfl⟩
  generalize hb2 : allIn 3 [recall] = b2
  have HB2 := Lib.hid hb2
  clear hb2
  go_wp2
  go_ret
  exact ⟨ret_bool (by unfold Ph.may; simp only [HB1.out, HB2.out, Bool.true_and, Bool.false_and, Bool.and_true, Bool.and_false]), (by repeat' first | exact Below.refl _ _ | (refine Below.alloc ?_ ?_ _) | (simp; done) | (simp; omega))⟩
theorem mayDetector_any (d : Det) (w : World) :
    Calls Try.prog 55 #[.agg (Det.cells d).toArray] w fun e w' => e = .returned (.bool (Det.may d)) ∧ Below w.heap.size w w' := by
  obtain ⟨phase, on, off, delay, extend, maxOn, maxOff⟩ := d
  show Calls Try.prog 55 #[.agg #[I phase, F on, F off, F delay, F extend, I maxOn, I maxOff]] w _
  go_enter Try.func55, Try.ntmps55
  go_wp2_with fail
  refine (within_any 7 _ _ [phase] _ (row_new _ _ [phase] 1 rfl (by decide) _ (by simp))).mono ?_
  rintro e w' ⟨rfl, rfl⟩
  generalize hb1 : allIn 7 [phase] = b1
  have HB1 := Lib.hid hb1
  clear hb1
  cases b1
  · go_wp2
    go_ret
    exact ⟨ret_bool (by unfold Det.may; simp only [HB1.out, Bool.true_and, Bool.false_and, Bool.and_true, Bool.and_false]), (by repeat' first | exact Below.refl _ _ | (refine Below.alloc ?_ ?_ _) | (simp; done) | (simp; omega))⟩
  go_wp2_with fail
  refine (level_any on _).mono ?_
  rintro e w' ⟨rfl, rfl⟩
  generalize hb2 : level on = b2
  have HB2 := Lib.hid hb2
  clear hb2
  cases b2
  · go_wp2
    go_ret
    exact ⟨ret_bool (by unfold Det.may; simp only [HB1.out, HB2.out, Bool.true_and, Bool.false_and, Bool.and_true, Bool.and_false]), (by repeat' first | exact Below.refl _ _ | (refine Below.alloc ?_ ?_ _) | (simp; done) | (simp; omega))⟩
  go_wp2_with fail
  refine (level_any off _).mono ?_
  rintro e w' ⟨rfl, rfl⟩
  generalize hb3 : level off = b3
  have HB3 := Lib.hid hb3
  clear hb3
  cases b3
  · go_wp2
    go_ret
    exact ⟨ret_bool (by unfold Det.may; simp only [HB1.out, HB2.out, HB3.out, Bool.true_and, Bool.false_and, Bool.and_true, Bool.and_false]), (by repeat' first | exact Below.refl _ _ | (refine Below.alloc ?_ ?_ _) | (simp; done) | (simp; omega))⟩
  go_wp2_with fail
  refine (span_any delay _).mono ?_
  rintro e w' ⟨rfl, rfl⟩
  generalize hb4 : span delay = b4
  have HB4 := Lib.hid hb4
  clear hb4
  cases b4
  · go_wp2
    go_ret
    exact ⟨ret_bool (by unfold Det.may; simp only [HB1.out, HB2.out, HB3.out, HB4.out, Bool.true_and, Bool.false_and, Bool.and_true, Bool.and_false]), (by repeat' first | exact Below.refl _ _ | (refine Below.alloc ?_ ?_ _) | (simp; done) | (simp; omega))⟩
  go_wp2_with fail
  refine (span_any extend _).mono ?_
  rintro e w' ⟨rfl, rfl⟩
  generalize hb5 : span extend = b5
  have HB5 := Lib.hid hb5
  clear hb5
  cases b5
  · go_wp2
    go_ret
    exact ⟨ret_bool (by unfold Det.may; simp only [HB1.out, HB2.out, HB3.out, HB4.out, HB5.out, Bool.true_and, Bool.false_and, Bool.and_true, Bool.and_false]), (by repeat' first | exact Below.refl _ _ | (refine Below.alloc ?_ ?_ _) | (simp; done) | (simp; omega))⟩
  go_wp2_with fail
  refine (within_any 9999 _ _ [maxOn, maxOff] _ (row_new _ _ [maxOn, maxOff] 2 rfl (by decide) _ (by simp))).mono ?_
  rintro e w' ⟨rfl, rfl⟩
  generalize hb6 : allIn 9999 [maxOn, maxOff] = b6
  have HB6 := Lib.hid hb6
  clear hb6
  go_wp2
  go_ret
  exact ⟨ret_bool (by unfold Det.may; simp only [HB1.out, HB2.out, HB3.out, HB4.out, HB5.out, HB6.out, Bool.true_and, Bool.false_and, Bool.and_true, Bool.and_false]), (by repeat' first | exact Below.refl _ _ | (refine Below.alloc ?_ ?_ _) | (simp; done) | (simp; omega))⟩
theorem mayRail_any (r : Rl) (w : World) :
    Calls Try.prog 57 #[.agg (Rl.cells r).toArray] w fun e w' => e = .returned (.bool (Rl.may r)) ∧ Below w.heap.size w w' := by
  obtain ⟨bars, clear, dwell, exit, delay, green, foot, hold, stay, most, limit⟩ := r
  show Calls Try.prog 57 #[.agg #[I bars, I clear, I dwell, I exit, I delay, I green, I foot, I hold, I stay, I most, I limit]] w _
  go_enter Try.func57, Try.ntmps57
  go_wp2_with fail
  refine (within_any 255 _ _ [bars, clear, dwell, exit] _ (row_new _ _ [bars, clear, dwell, exit] 4 rfl (by decide) _ (by simp))).mono ?_
  rintro e w' ⟨rfl, rfl⟩
  generalize hb1 : allIn 255 [bars, clear, dwell, exit] = b1
  have HB1 := Lib.hid hb1
  clear hb1
  cases b1
  · go_wp2
    go_ret
    exact ⟨ret_bool (by unfold Rl.may; simp only [HB1.out, Bool.true_and, Bool.false_and, Bool.and_true, Bool.and_false]), (by repeat' first | exact Below.refl _ _ | (refine Below.alloc ?_ ?_ _) | (simp; done) | (simp; omega))⟩
  go_wp2_with fail
  refine (within_any 9999 _ _ [delay, green, foot, hold, stay, most] _ (row_new _ _ [delay, green, foot, hold, stay, most] 6 rfl (by decide) _ (by simp))).mono ?_
  rintro e w' ⟨rfl, rfl⟩
  generalize hb2 : allIn 9999 [delay, green, foot, hold, stay, most] = b2
  have HB2 := Lib.hid hb2
  clear hb2
  cases b2
  · go_wp2
    go_ret
    exact ⟨ret_bool (by unfold Rl.may; simp only [HB1.out, HB2.out, Bool.true_and, Bool.false_and, Bool.and_true, Bool.and_false]), (by repeat' first | exact Below.refl _ _ | (refine Below.alloc ?_ ?_ _) | (simp; done) | (simp; omega))⟩
  go_wp2_with fail
  refine (within_any 2147483647 _ _ [limit] _ (row_new _ _ [limit] 1 rfl (by decide) _ (by simp))).mono ?_
  rintro e w' ⟨rfl, rfl⟩
  generalize hb3 : allIn 2147483647 [limit] = b3
  have HB3 := Lib.hid hb3
  clear hb3
  go_wp2
  go_ret
  exact ⟨ret_bool (by unfold Rl.may; simp only [HB1.out, HB2.out, HB3.out, Bool.true_and, Bool.false_and, Bool.and_true, Bool.and_false]), (by repeat' first | exact Below.refl _ _ | (refine Below.alloc ?_ ?_ _) | (simp; done) | (simp; omega))⟩
theorem mayBus_any (b : Bs) (w : World) :
    Calls Try.prog 59 #[.agg (Bs.cells b).toArray] w fun e w' => e = .returned (.bool (Bs.may b)) ∧ Below w.heap.size w w' := by
  obtain ⟨set, lock⟩ := b
  show Calls Try.prog 59 #[.agg #[I set, I lock]] w _
  go_enter Try.func59, Try.ntmps59
  go_wp2_with fail
  refine (within_any 255 _ _ [set] _ (row_new _ _ [set] 1 rfl (by decide) _ (by simp))).mono ?_
  rintro e w' ⟨rfl, rfl⟩
  generalize hb1 : allIn 255 [set] = b1
  have HB1 := Lib.hid hb1
  clear hb1
  cases b1
  · go_wp2
    go_ret
    exact ⟨ret_bool (by unfold Bs.may; simp only [HB1.out, Bool.true_and, Bool.false_and, Bool.and_true, Bool.and_false]), (by repeat' first | exact Below.refl _ _ | (refine Below.alloc ?_ ?_ _) | (simp; done) | (simp; omega))⟩
  go_wp2_with fail
  refine (within_any 9999 _ _ [lock] _ (row_new _ _ [lock] 1 rfl (by decide) _ (by simp))).mono ?_
  rintro e w' ⟨rfl, rfl⟩
  generalize hb2 : allIn 9999 [lock] = b2
  have HB2 := Lib.hid hb2
  clear hb2
  go_wp2
  go_ret
  exact ⟨ret_bool (by unfold Bs.may; simp only [HB1.out, HB2.out, Bool.true_and, Bool.false_and, Bool.and_true, Bool.and_false]), (by repeat' first | exact Below.refl _ _ | (refine Below.alloc ?_ ?_ _) | (simp; done) | (simp; omega))⟩
theorem mayRow_any (a : Option Addr) (cap : Nat) (l : List Int) (w : World) (h : IntRow w ⟨a, cap⟩ l) :
    Calls Try.prog 69 #[.slice a l.length cap] w fun e w' => e = .returned (.bool (rowMay l)) ∧ w = w' := by
  have h1 := h.len
  unfold maxLen at h1
  have Hr := Lib.hid h
  clear h
  by_cases h8 : l.length ≤ 8
  · go_enter Try.func69, Try.ntmps69
    go_wp2_with (go_at_call 53; refine (within_any _ _ _ _ _ Hr.out).mono ?_; rintro e w' ⟨rfl, rfl⟩)
    go_ret
    exact ⟨ret_bool (by unfold rowMay; rw [decide_eq_true h8, Bool.true_and]), rfl⟩
  · go_enter Try.func69, Try.ntmps69
    go_wp2
    go_ret
    exact ⟨ret_bool (by unfold rowMay; rw [decide_eq_false h8, Bool.false_and]), rfl⟩
theorem mayGroup_any (g : Gr) (w : World) (h : g.ok w) :
    Calls Try.prog 52 #[.agg g.cells.toArray] w fun e w' => e = .returned (.bool (groupMay g.data)) ∧ Below w.heap.size w w' := by
  obtain ⟨l0, l1, ⟨a0, cap0⟩, ⟨a1, cap1⟩⟩ := g
  have H0 := Lib.hid h.1
  have H1 := Lib.hid h.2
  clear h
  show Calls Try.prog 52 #[.agg #[.slice a0 l0.length cap0, .slice a1 l1.length cap1]] w _
  go_enter Try.func52, Try.ntmps52
  go_wp2_with fail
  refine (mayRow_any a0 cap0 l0 _ (H0.out.below ((Below.refl _ _).alloc (Nat.le_refl _) _))).mono ?_
  rintro e w' ⟨rfl, rfl⟩
  generalize hb1 : rowMay l0 = b1
  have HB1 := Lib.hid hb1
  clear hb1
  cases b1
  · go_wp2
    go_ret
    exact ⟨ret_bool (by unfold groupMay; simp only [Gr.data, HB1.out, Bool.true_and, Bool.false_and, Bool.and_true, Bool.and_false]), (by repeat' first | exact Below.refl _ _ | (refine Below.alloc ?_ ?_ _) | (simp; done) | (simp; omega))⟩
  go_wp2_with fail
  refine (mayRow_any a1 cap1 l1 _ (H1.out.below ((Below.refl _ _).alloc (Nat.le_refl _) _))).mono ?_
  rintro e w' ⟨rfl, rfl⟩
  generalize hb2 : rowMay l1 = b2
  have HB2 := Lib.hid hb2
  clear hb2
  go_wp2
  go_ret
  exact ⟨ret_bool (by unfold groupMay; simp only [Gr.data, HB1.out, HB2.out, Bool.true_and, Bool.false_and, Bool.and_true, Bool.and_false]), (by repeat' first | exact Below.refl _ _ | (refine Below.alloc ?_ ?_ _) | (simp; done) | (simp; omega))⟩
end May
namespace May
open Go.ChangeShapes Go.WideShapes Go.ChangeAt Go.RowKit
open Tab
theorem chain {a b c : World} (h : Below a.heap.size a b) (k : Below b.heap.size b c) : Below a.heap.size a c := h.trans (k.mono h.size)
theorem infoP : (Try.prog.info? 24).map (·.size) = some 13 := by kernel_rfl
theorem infoG : (Try.prog.info? 36).map (·.size) = some 2 := by kernel_rfl
theorem infoD : (Try.prog.info? 39).map (·.size) = some 7 := by kernel_rfl
theorem infoR : (Try.prog.info? 41).map (·.size) = some 11 := by kernel_rfl
theorem infoB : (Try.prog.info? 43).map (·.size) = some 2 := by kernel_rfl
theorem mayAllP_any (m : Int) (a : Option Addr) (cap : Nat) (l : List Ph) (w : World) (h : RowOf 13 Ph.cells w ⟨a, cap⟩ l) :
    Calls Try.prog 49 #[.slice a l.length cap, .int .i64 m, .func (.func 50) #[] #[]] w fun e w' => e = .returned (.bool (decide ((l.length : Int) ≤ m) && l.all Ph.may)) ∧ Below w.heap.size w w' := by
  have h1 := h.len
  unfold maxLen at h1
  have Hr := Lib.hid h
  clear h
  by_cases hm : (l.length : Int) ≤ m
  · have hm' : decide (m < (l.length : Int)) = false := decide_eq_false (by omega)
    have Hm := Lib.hid hm
    go_enter Try.func49, Try.ntmps49
    go_wp2
    go_loopw [15] (fun i wr => ∃ k : Nat, k ≤ l.length ∧ i = .int .i64 k ∧ (l.take k).all Ph.may = true ∧ Below w.heap.size w wr) (fun i _ => l.length - (intOf i).toNat)
    case atStart => exact ⟨0, Nat.zero_le _, rfl, rfl, Below.refl _ _⟩
    case round =>
      obtain ⟨k, hk, rfl, hall, hbel⟩ := hrel
      have Hall := Lib.hid hall
      have Hb := Lib.hid hbel
      clear hall hbel
      by_cases hlt : k < l.length
      · have hv := List.getElem?_eq_getElem hlt
        generalize l[k] = v at hv
        obtain ⟨x, hx, hcell⟩ := (Hr.out.below Hb.out).at hv
        obtain rfl : a = some x := hx
        have HV := Lib.hid hv
        have HC := Lib.hid hcell
        clear hv hcell
        go_wp2_with (first | (refine Row.wpList_load_lies rfl 24 _ rfl (x.add (k * 13)) rfl v.cells _ HC.out Try.underlying24 rfl infoP ?_) | (refine Row.wpList_store_new rfl 24 _ _ rfl _ _ v.cells.toArray rfl rfl rfl infoP rfl v.one ?_) | (refine wpList_load_row rfl 24 _ rfl _ rfl _ _ _ _ (heap_alloc_new _ _) Try.underlying24 rfl infoP ?_))
        refine (mayPhase_any v _).mono ?_
        rintro e w2 ⟨rfl, hb2⟩
        have B2 := Lib.hid (chain Hb.out (chain ((Below.refl _ _).alloc (Nat.le_refl _) _) hb2))
        clear hb2
        generalize hb : Ph.may v = b
        have HB := Lib.hid hb
        clear hb
        cases b
        · go_wp2
          go_ret
          exact ⟨ret_bool (by rw [all_break (f := Ph.may) HV.out HB.out, Bool.and_false]), B2.out⟩
        · go_wp2
          go_roundw
          case rel => exact ⟨k + 1, by omega, by go_num, all_step (f := Ph.may) HV.out Hall.out HB.out, B2.out⟩
          case measure => simp [intOf]; omega
      · go_wp2
        go_ret
        exact ⟨ret_bool (by rw [all_end Hall.out hlt, decide_eq_true (by have := Hm.out; omega)]; rfl), Hb.out⟩
  · have Hm := Lib.hid hm
    go_enter Try.func49, Try.ntmps49
    go_wp2
    go_ret
    exact ⟨ret_bool (by rw [decide_eq_false (by have := Hm.out; omega)]; rfl), Below.refl _ _⟩
theorem mayAllG_any (m : Int) (a : Option Addr) (cap : Nat) (l : List Gr) (w : World) (h : RowOf 2 Gr.cells w ⟨a, cap⟩ l) (h2 : ∀ v ∈ l, v.ok w) :
    Calls Try.prog 51 #[.slice a l.length cap, .int .i64 m, .func (.func 52) #[] #[]] w fun e w' => e = .returned (.bool (decide ((l.length : Int) ≤ m) && l.all (fun v => groupMay v.data))) ∧ Below w.heap.size w w' := by
  have h1 := h.len
  unfold maxLen at h1
  have Hr := Lib.hid h
  clear h
  have H2 := Lib.hid h2
  clear h2
  by_cases hm : (l.length : Int) ≤ m
  · have hm' : decide (m < (l.length : Int)) = false := decide_eq_false (by omega)
    have Hm := Lib.hid hm
    go_enter Try.func51, Try.ntmps51
    go_wp2
    go_loopw [15] (fun i wr => ∃ k : Nat, k ≤ l.length ∧ i = .int .i64 k ∧ (l.take k).all (fun v => groupMay v.data) = true ∧ Below w.heap.size w wr) (fun i _ => l.length - (intOf i).toNat)
    case atStart => exact ⟨0, Nat.zero_le _, rfl, rfl, Below.refl _ _⟩
    case round =>
      obtain ⟨k, hk, rfl, hall, hbel⟩ := hrel
      have Hall := Lib.hid hall
      have Hb := Lib.hid hbel
      clear hall hbel
      by_cases hlt : k < l.length
      · have hv := List.getElem?_eq_getElem hlt
        generalize l[k] = v at hv
        obtain ⟨x, hx, hcell⟩ := (Hr.out.below Hb.out).at hv
        obtain rfl : a = some x := hx
        have HV := Lib.hid hv
        have HC := Lib.hid hcell
        clear hv hcell
        go_wp2_with (first | (refine Row.wpList_load_lies rfl 36 _ rfl (x.add (k * 2)) rfl v.cells _ HC.out Try.underlying36 rfl infoG ?_) | (refine Row.wpList_store_new rfl 36 _ _ rfl _ _ v.cells.toArray rfl rfl rfl infoG rfl v.one ?_) | (refine wpList_load_row rfl 36 _ rfl _ rfl _ _ _ _ (heap_alloc_new _ _) Try.underlying36 rfl infoG ?_))
        refine (mayGroup_any v _ (((H2.out _ (List.mem_of_getElem? HV.out)).below Hb.out).below ((Below.refl _ _).alloc (Nat.le_refl _) _))).mono ?_
        rintro e w2 ⟨rfl, hb2⟩
        have B2 := Lib.hid (chain Hb.out (chain ((Below.refl _ _).alloc (Nat.le_refl _) _) hb2))
        clear hb2
        generalize hb : groupMay v.data = b
        have HB := Lib.hid hb
        clear hb
        cases b
        · go_wp2
          go_ret
          exact ⟨ret_bool (by rw [all_break (f := (fun v => groupMay v.data)) HV.out HB.out, Bool.and_false]), B2.out⟩
        · go_wp2
          go_roundw
          case rel => exact ⟨k + 1, by omega, by go_num, all_step (f := (fun v => groupMay v.data)) HV.out Hall.out HB.out, B2.out⟩
          case measure => simp [intOf]; omega
      · go_wp2
        go_ret
        exact ⟨ret_bool (by rw [all_end Hall.out hlt, decide_eq_true (by have := Hm.out; omega)]; rfl), Hb.out⟩
  · have Hm := Lib.hid hm
    go_enter Try.func51, Try.ntmps51
    go_wp2
    go_ret
    exact ⟨ret_bool (by rw [decide_eq_false (by have := Hm.out; omega)]; rfl), Below.refl _ _⟩
theorem mayAllD_any (m : Int) (a : Option Addr) (cap : Nat) (l : List Det) (w : World) (h : RowOf 7 Det.cells w ⟨a, cap⟩ l) :
    Calls Try.prog 54 #[.slice a l.length cap, .int .i64 m, .func (.func 55) #[] #[]] w fun e w' => e = .returned (.bool (decide ((l.length : Int) ≤ m) && l.all Det.may)) ∧ Below w.heap.size w w' := by
  have h1 := h.len
  unfold maxLen at h1
  have Hr := Lib.hid h
  clear h
  by_cases hm : (l.length : Int) ≤ m
  · have hm' : decide (m < (l.length : Int)) = false := decide_eq_false (by omega)
    have Hm := Lib.hid hm
    go_enter Try.func54, Try.ntmps54
    go_wp2
    go_loopw [15] (fun i wr => ∃ k : Nat, k ≤ l.length ∧ i = .int .i64 k ∧ (l.take k).all Det.may = true ∧ Below w.heap.size w wr) (fun i _ => l.length - (intOf i).toNat)
    case atStart => exact ⟨0, Nat.zero_le _, rfl, rfl, Below.refl _ _⟩
    case round =>
      obtain ⟨k, hk, rfl, hall, hbel⟩ := hrel
      have Hall := Lib.hid hall
      have Hb := Lib.hid hbel
      clear hall hbel
      by_cases hlt : k < l.length
      · have hv := List.getElem?_eq_getElem hlt
        generalize l[k] = v at hv
        obtain ⟨x, hx, hcell⟩ := (Hr.out.below Hb.out).at hv
        obtain rfl : a = some x := hx
        have HV := Lib.hid hv
        have HC := Lib.hid hcell
        clear hv hcell
        go_wp2_with (first | (refine Row.wpList_load_lies rfl 39 _ rfl (x.add (k * 7)) rfl v.cells _ HC.out Try.underlying39 rfl infoD ?_) | (refine Row.wpList_store_new rfl 39 _ _ rfl _ _ v.cells.toArray rfl rfl rfl infoD rfl v.one ?_) | (refine wpList_load_row rfl 39 _ rfl _ rfl _ _ _ _ (heap_alloc_new _ _) Try.underlying39 rfl infoD ?_))
        refine (mayDetector_any v _).mono ?_
        rintro e w2 ⟨rfl, hb2⟩
        have B2 := Lib.hid (chain Hb.out (chain ((Below.refl _ _).alloc (Nat.le_refl _) _) hb2))
        clear hb2
        generalize hb : Det.may v = b
        have HB := Lib.hid hb
        clear hb
        cases b
        · go_wp2
          go_ret
          exact ⟨ret_bool (by rw [all_break (f := Det.may) HV.out HB.out, Bool.and_false]), B2.out⟩
        · go_wp2
          go_roundw
          case rel => exact ⟨k + 1, by omega, by go_num, all_step (f := Det.may) HV.out Hall.out HB.out, B2.out⟩
          case measure => simp [intOf]; omega
      · go_wp2
        go_ret
        exact ⟨ret_bool (by rw [all_end Hall.out hlt, decide_eq_true (by have := Hm.out; omega)]; rfl), Hb.out⟩
  · have Hm := Lib.hid hm
    go_enter Try.func54, Try.ntmps54
    go_wp2
    go_ret
    exact ⟨ret_bool (by rw [decide_eq_false (by have := Hm.out; omega)]; rfl), Below.refl _ _⟩
theorem mayAllR_any (m : Int) (a : Option Addr) (cap : Nat) (l : List Rl) (w : World) (h : RowOf 11 Rl.cells w ⟨a, cap⟩ l) :
    Calls Try.prog 56 #[.slice a l.length cap, .int .i64 m, .func (.func 57) #[] #[]] w fun e w' => e = .returned (.bool (decide ((l.length : Int) ≤ m) && l.all Rl.may)) ∧ Below w.heap.size w w' := by
  have h1 := h.len
  unfold maxLen at h1
  have Hr := Lib.hid h
  clear h
  by_cases hm : (l.length : Int) ≤ m
  · have hm' : decide (m < (l.length : Int)) = false := decide_eq_false (by omega)
    have Hm := Lib.hid hm
    go_enter Try.func56, Try.ntmps56
    go_wp2
    go_loopw [15] (fun i wr => ∃ k : Nat, k ≤ l.length ∧ i = .int .i64 k ∧ (l.take k).all Rl.may = true ∧ Below w.heap.size w wr) (fun i _ => l.length - (intOf i).toNat)
    case atStart => exact ⟨0, Nat.zero_le _, rfl, rfl, Below.refl _ _⟩
    case round =>
      obtain ⟨k, hk, rfl, hall, hbel⟩ := hrel
      have Hall := Lib.hid hall
      have Hb := Lib.hid hbel
      clear hall hbel
      by_cases hlt : k < l.length
      · have hv := List.getElem?_eq_getElem hlt
        generalize l[k] = v at hv
        obtain ⟨x, hx, hcell⟩ := (Hr.out.below Hb.out).at hv
        obtain rfl : a = some x := hx
        have HV := Lib.hid hv
        have HC := Lib.hid hcell
        clear hv hcell
        go_wp2_with (first | (refine Row.wpList_load_lies rfl 41 _ rfl (x.add (k * 11)) rfl v.cells _ HC.out Try.underlying41 rfl infoR ?_) | (refine Row.wpList_store_new rfl 41 _ _ rfl _ _ v.cells.toArray rfl rfl rfl infoR rfl v.one ?_) | (refine wpList_load_row rfl 41 _ rfl _ rfl _ _ _ _ (heap_alloc_new _ _) Try.underlying41 rfl infoR ?_))
        refine (mayRail_any v _).mono ?_
        rintro e w2 ⟨rfl, hb2⟩
        have B2 := Lib.hid (chain Hb.out (chain ((Below.refl _ _).alloc (Nat.le_refl _) _) hb2))
        clear hb2
        generalize hb : Rl.may v = b
        have HB := Lib.hid hb
        clear hb
        cases b
        · go_wp2
          go_ret
          exact ⟨ret_bool (by rw [all_break (f := Rl.may) HV.out HB.out, Bool.and_false]), B2.out⟩
        · go_wp2
          go_roundw
          case rel => exact ⟨k + 1, by omega, by go_num, all_step (f := Rl.may) HV.out Hall.out HB.out, B2.out⟩
          case measure => simp [intOf]; omega
      · go_wp2
        go_ret
        exact ⟨ret_bool (by rw [all_end Hall.out hlt, decide_eq_true (by have := Hm.out; omega)]; rfl), Hb.out⟩
  · have Hm := Lib.hid hm
    go_enter Try.func56, Try.ntmps56
    go_wp2
    go_ret
    exact ⟨ret_bool (by rw [decide_eq_false (by have := Hm.out; omega)]; rfl), Below.refl _ _⟩
theorem mayAllB_any (m : Int) (a : Option Addr) (cap : Nat) (l : List Bs) (w : World) (h : RowOf 2 Bs.cells w ⟨a, cap⟩ l) :
    Calls Try.prog 58 #[.slice a l.length cap, .int .i64 m, .func (.func 59) #[] #[]] w fun e w' => e = .returned (.bool (decide ((l.length : Int) ≤ m) && l.all Bs.may)) ∧ Below w.heap.size w w' := by
  have h1 := h.len
  unfold maxLen at h1
  have Hr := Lib.hid h
  clear h
  by_cases hm : (l.length : Int) ≤ m
  · have hm' : decide (m < (l.length : Int)) = false := decide_eq_false (by omega)
    have Hm := Lib.hid hm
    go_enter Try.func58, Try.ntmps58
    go_wp2
    go_loopw [15] (fun i wr => ∃ k : Nat, k ≤ l.length ∧ i = .int .i64 k ∧ (l.take k).all Bs.may = true ∧ Below w.heap.size w wr) (fun i _ => l.length - (intOf i).toNat)
    case atStart => exact ⟨0, Nat.zero_le _, rfl, rfl, Below.refl _ _⟩
    case round =>
      obtain ⟨k, hk, rfl, hall, hbel⟩ := hrel
      have Hall := Lib.hid hall
      have Hb := Lib.hid hbel
      clear hall hbel
      by_cases hlt : k < l.length
      · have hv := List.getElem?_eq_getElem hlt
        generalize l[k] = v at hv
        obtain ⟨x, hx, hcell⟩ := (Hr.out.below Hb.out).at hv
        obtain rfl : a = some x := hx
        have HV := Lib.hid hv
        have HC := Lib.hid hcell
        clear hv hcell
        go_wp2_with (first | (refine Row.wpList_load_lies rfl 43 _ rfl (x.add (k * 2)) rfl v.cells _ HC.out Try.underlying43 rfl infoB ?_) | (refine Row.wpList_store_new rfl 43 _ _ rfl _ _ v.cells.toArray rfl rfl rfl infoB rfl v.one ?_) | (refine wpList_load_row rfl 43 _ rfl _ rfl _ _ _ _ (heap_alloc_new _ _) Try.underlying43 rfl infoB ?_))
        refine (mayBus_any v _).mono ?_
        rintro e w2 ⟨rfl, hb2⟩
        have B2 := Lib.hid (chain Hb.out (chain ((Below.refl _ _).alloc (Nat.le_refl _) _) hb2))
        clear hb2
        generalize hb : Bs.may v = b
        have HB := Lib.hid hb
        clear hb
        cases b
        · go_wp2
          go_ret
          exact ⟨ret_bool (by rw [all_break (f := Bs.may) HV.out HB.out, Bool.and_false]), B2.out⟩
        · go_wp2
          go_roundw
          case rel => exact ⟨k + 1, by omega, by go_num, all_step (f := Bs.may) HV.out Hall.out HB.out, B2.out⟩
          case measure => simp [intOf]; omega
      · go_wp2
        go_ret
        exact ⟨ret_bool (by rw [all_end Hall.out hlt, decide_eq_true (by have := Hm.out; omega)]; rfl), Hb.out⟩
  · have Hm := Lib.hid hm
    go_enter Try.func58, Try.ntmps58
    go_wp2
    go_ret
    exact ⟨ret_bool (by rw [decide_eq_false (by have := Hm.out; omega)]; rfl), Below.refl _ _⟩
end May
namespace Held
open Go Go.RowKit
open Tab
section
variable {P : Program} {ops : Array Oper} {Q : Exit → Act → World → Prop} {md : Region.Mode} {S : World → Prop}
theorem take {i : Nat} {oi : Oper} (d0 : Option Tmp) (hd0 : oi.dst = d0) {fuel : Nat} {listed : Array Bool} {a : Act} {w : World} {v : Value} (hi : ops[i]? = some oi) (hs : Region.noSelect ops = true) (hf : Region.free md ops listed i = true) (hr : (Region.ready md ops listed).contains i = true)
    (hQ : ∀ c a w, Q (.panic c) (a.put d0 v) w → Q (.panic c) a w) (hy : YieldsIf P ops S oi v a) (hS : S w)
    (h : wpAnyH P md ops Q S fuel (listed.setIfInBounds i true) (a.put d0 v) w) : wpAnyH P md ops Q S (fuel + 1) listed a w :=
  by
  subst hd0
  exact wpAnyH_take hi hs hf hr hQ hy hS h
theorem take_load {i : Nat} {oi : Oper} (d0 : Option Tmp) (hd0 : oi.dst = d0) {fuel : Nat} {listed : Array Bool} {a : Act} {w : World} (ty : TypeId) (x : Operand) (y : Addr) (cs : List Value) (d : TypeDesc) (hi : ops[i]? = some oi) (ho : oi.op = .load ty x) (hs : Region.noSelect ops = true) (hf : Region.free md ops listed i = true) (hr : (Region.ready md ops listed).contains i = true)
    (hQ : ∀ c a w, Q (.panic c) (a.put d0 (.agg cs.toArray)) w → Q (.panic c) a w) (hw : Region.wanted oi (yielded ops a.tmps) = true) (hS : S w) (hx : a.eval x = .pointer (some y)) (hc : ∀ w, S w → Lies w y cs) (hu : P.underlying ty = some d) (hd : d.isRow = true) (hz : (P.info? ty).map (·.size) = some cs.length)
    (h : wpAnyH P md ops Q S fuel (listed.setIfInBounds i true) (a.put d0 (.agg cs.toArray)) w) : wpAnyH P md ops Q S (fuel + 1) listed a w :=
  by
  subst hd0
  exact wpAnyH_take hi hs hf hr hQ (.inl ⟨hw, fun w' hw' => by
    unfold execOp
    simp only [ho, hx, Instr.loadAt, Instr.sureAddr, Sem.run_bind, Sem.run_pure, Result.andThen_ok, Row.run_loadVar_lies w' y ty cs d (hc w' hw') hu hd hz]⟩) hS h
theorem take_build {i : Nat} {oi : Oper} (d0 : Option Tmp) (hd0 : oi.dst = d0) {fuel : Nat} {listed : Array Bool} {a : Act} {w : World} (t : TypeId) (parts : Array (Nat × Operand)) (cells : Array Value) (hi : ops[i]? = some oi) (ho : oi.op = .build t parts) (hs : Region.noSelect ops = true) (hf : Region.free md ops listed i = true) (hr : (Region.ready md ops listed).contains i = true)
    (hQ : ∀ c a w, Q (.panic c) (a.put d0 (.agg cells)) w → Q (.panic c) a w) (hw : Region.wanted oi (yielded ops a.tmps) = true) (hS : S w) (hb : P.built t (parts.map fun (i, x) => (i, a.eval x)).toList = some cells)
    (h : wpAnyH P md ops Q S fuel (listed.setIfInBounds i true) (a.put d0 (.agg cells)) w) : wpAnyH P md ops Q S (fuel + 1) listed a w :=
  by
  subst hd0
  exact wpAnyH_take hi hs hf hr hQ (.inl ⟨hw, fun w' _ => by
    unfold execOp
    simp only [ho, Sem.run_bind, run_build w' t _ _ hb, Result.andThen_ok, Sem.run_pure]⟩) hS h
end
end Held
namespace GenG
open Go.ChangeShapes Go.WideShapes Go.ChangeAt Go.RowKit
open Tab Gath
open RefS (num from_any num_range ret_int)
/-- m phases from p on. -/
def seg (p m : Nat) : List Int := (List.range m).map fun i => ((p + i : Nat) : Int)
theorem seg_len (p m : Nat) : (seg p m).length = m := by simp [seg]
theorem seg_succ (p m : Nat) : seg p (m + 1) = seg p m ++ [((p + m : Nat) : Int)] := by unfold seg; rw [List.range_succ, List.map_append]; rfl
def lim (G g : Nat) : Nat := 9 + g - G
def want0 (L : List Int) (g : Nat) : Nat := (num L (1 + 2 * g) 3).toNat
def want1 (L : List Int) (g : Nat) (m : Nat) : Nat := if num L (2 + 2 * g) 3 = 0 ∧ m = 0 then 1 else (num L (2 + 2 * g) 3).toNat
def n0 (L : List Int) (G g p : Nat) : Nat := min (want0 L g) (lim G g - p)
def n1 (L : List Int) (G g p : Nat) : Nat := min (want1 L g (n0 L G g p)) (lim G g - (p + n0 L G g p))
def grpD (L : List Int) (G g p : Nat) : List Int × List Int := (seg p (n0 L G g p), seg (p + n0 L G g p) (n1 L G g p))
def upTo (L : List Int) (G : Nat) : Nat → List (List Int × List Int) × Nat
  | 0 => ([], 0)
  | g + 1 => ((upTo L G g).1 ++ [grpD L G g (upTo L G g).2], (upTo L G g).2 + n0 L G g (upTo L G g).2 + n1 L G g (upTo L G g).2)
def genG (L : List Int) : Nat := (1 + num L 0 3).toNat
def genGs (L : List Int) : List (List Int × List Int) := (upTo L (genG L) (genG L)).1
def genN (L : List Int) : Nat := (upTo L (genG L) (genG L)).2
theorem genG_range (L : List Int) : 1 ≤ genG L ∧ genG L ≤ 3 := by have := num_range L 0 3 (by omega); unfold genG; omega
theorem want0_le (L : List Int) (g : Nat) : want0 L g ≤ 2 := by have := num_range L (1 + 2 * g) 3 (by omega); unfold want0; omega
theorem want1_le (L : List Int) (g m : Nat) : want1 L g m ≤ 2 := by have := num_range L (2 + 2 * g) 3 (by omega); unfold want1; split <;> omega
theorem up_le (L : List Int) (G : Nat) (hG : G ≤ 3) : ∀ g, g ≤ G → (upTo L G g).2 ≤ 8
  | 0, _ => Nat.zero_le _
  | g + 1, h => by
    have := up_le L G hG g (by omega)
    show (upTo L G g).2 + n0 L G g (upTo L G g).2 + n1 L G g (upTo L G g).2 ≤ 8
    unfold n1 n0 lim
    omega
theorem up_len (L : List Int) (G : Nat) : ∀ g, (upTo L G g).1.length = g
  | 0 => rfl
  | g + 1 => by show ((upTo L G g).1 ++ [_]).length = g + 1; rw [List.length_append, up_len L G g]; rfl
/-- A row of integers, in a block of integers. -/
def RowI (w : World) (s : Sl) (l : List Int) : Prop := IntRow w s l ∧ ∀ x, s.a = some x → ∃ cs : Array Value, w.heap[x.block]? = some (.cells cs 3 (0, 0))
theorem RowI.below {w w' : World} {s : Sl} {l : List Int} (h : RowI w s l) (hb : Below w.heap.size w w') : RowI w' s l := ⟨h.1.below hb, fun x hx => by
  obtain ⟨cs, hc⟩ := h.2 x hx
  exact ⟨cs, (hb.block _ (Array.getElem?_eq_some_iff.1 hc).1).trans hc⟩⟩
theorem add_block (x : Addr) (k : Nat) : (x.add k).block = x.block := by unfold Addr.add; split <;> rfl
theorem RowI.grown {w w' : World} {s : Sl} {l : List Int} {row : Option Nat} (h : RowI w s l) (hg : w.grownBy w' row) (hne : ∀ x, s.a = some x → some x.block ≠ row) : RowI w' s l := by
  refine ⟨?_, fun x hx => ?_⟩
  · rcases h.1 with h | ⟨x, h1, h2, h3, h4⟩
    · exact .inl h
    · exact .inr ⟨x, h1, h2, h3, fun i v hv j u hu => hg.cell (h4 i v hv j u hu) (by rw [add_block, add_block]; exact hne x h1)⟩
  · obtain ⟨cs, hc⟩ := h.2 x hx
    exact ⟨cs, (hg.block _ (Array.getElem?_eq_some_iff.1 hc).1 (hne x hx)).trans hc⟩
/-- It lies in another block than one of another type. -/
theorem RowI.ne {w : World} {s : Sl} {l : List Int} {b : Nat} {cs : Array Value} {t : TypeId} (h : RowI w s l) (hb : w.heap[b]? = some (.cells cs t (0, 0))) (ht : t ≠ 3) : ∀ x, s.a = some x → x.block ≠ b := by
  intro x hx e
  obtain ⟨ds, hc⟩ := h.2 x hx
  rw [e, hb] at hc
  simp at hc
  exact ht hc.2
theorem grown_set (W : World) (b i : Nat) (v : Value) : W.grownBy (W.setCell ⟨b, i, none⟩ v) (some b) :=
  ⟨rfl, rfl, rfl, by simp, fun j _ hj => heap_setCell_other _ _ _ _ (fun e => hj (by rw [e]))⟩
theorem own_row {B : Nat} {w : World} {v : Value} {l : List Int} (h : Owns (fun n => [I n]) 1 B w 3 v l) : ∃ s : Sl, v = s.val l.length ∧ RowI w s l := by
  obtain ⟨s, hs, hr⟩ := Owns.row h (enc := fun n => [I n]) (fun _ => rfl)
  refine ⟨s, hs, hr, fun x hx => ?_⟩
  rcases h.2 with ⟨e, _⟩ | ⟨g, cap, cur, e, h1, h2, _⟩
  · rw [hs] at e
    simp [Sl.val, hx] at e
  · rw [hs] at e
    simp [Sl.val, hx] at e
    obtain ⟨rfl, _⟩ := e
    exact ⟨cur, h2⟩
theorem own_kept {α : Type} {enc : α → List Value} {n B : Nat} {w w' : World} {t : TypeId} {v : Value} {l : List α} {row : Option Nat} (h : Owns enc n B w t v l) (hg : w.grownBy w' row) (hne : ∀ m, v.ownBlock = some m → row ≠ some m) : Owns enc n B w' t v l :=
  World.ownsRow.kept h hg (by
    cases e : v.ownBlock with
    | none => exact .inl rfl
    | some m => exact .inr (fun e' => hne m e e'.symm))
theorem own_lt {α : Type} {enc : α → List Value} {n B : Nat} {w : World} {t : TypeId} {v : Value} {l : List α} (h : Owns enc n B w t v l) : ∀ m, v.ownBlock = some m → m < w.heap.size := by
  intro m hm
  rcases h.2 with ⟨rfl, _⟩ | ⟨g, cap, cur, rfl, h1, h2, _⟩
  · simp [Value.ownBlock] at hm
  · simp [Value.ownBlock] at hm
    subst hm
    exact (Array.getElem?_eq_some_iff.1 h2).1
theorem own_type {α : Type} {enc : α → List Value} {n B : Nat} {w : World} {t : TypeId} {v : Value} {l : List α} (h : Owns enc n B w t v l) : ∀ m, v.ownBlock = some m → ∃ cs : Array Value, w.heap[m]? = some (.cells cs t (0, 0)) := by
  intro m hm
  rcases h.2 with ⟨rfl, _⟩ | ⟨g, cap, cur, rfl, h1, h2, _⟩
  · simp [Value.ownBlock] at hm
  · simp [Value.ownBlock] at hm
    subst hm
    exact ⟨cur, h2⟩
theorem own_ne {α : Type} {enc : α → List Value} {n B : Nat} {w : World} {t t' : TypeId} {v : Value} {l : List α} {b : Nat} {cs : Array Value} (h : Owns enc n B w t v l) (hb : w.heap[b]? = some (.cells cs t' (0, 0))) (ht : t' ≠ t) : v.ownBlock ≠ some b := by
  intro e
  obtain ⟨ds, hd⟩ := own_type h b e
  rw [hb] at hd
  simp at hd
  exact ht hd.2
theorem grown_below {w w' : World} (hb : Below w.heap.size w w') (row : Option Nat) : w.grownBy w' row := ⟨hb.os, hb.tape, hb.output, hb.size, fun j hj _ => hb.block j hj⟩
theorem grown_trans {w w1 w2 : World} {b : Nat} {row : Option Nat} (h : w.grownBy w1 (some b)) (h2 : w1.grownBy w2 row) (hr : ∀ m, row = some m → m = b ∨ w.heap.size ≤ m) : w.grownBy w2 (some b) := by
  refine ⟨h2.os.trans h.os, h2.tape.trans h.tape, h2.output.trans h.output, Nat.le_trans h.size h2.size, fun j hj hne => ?_⟩
  rw [h2.block j (Nat.lt_of_lt_of_le hj h.size) (fun e => by rcases hr j e.symm with e' | e'; exact hne (by rw [e']); omega), h.block j hj hne]
/-- One group while its first row is filled. -/
structure G0 (Bg : Nat) (w1 : World) (a : Option Addr) (c : Nat) (p i : Nat) (W : World) : Prop where
  bel : Below Bg w1 W
  box : W.heap[Bg]? = some (.cells #[.slice a i c, .slice none 0 0] 36 (0, 0))
  own : Owns (fun n => [I n]) 1 (Bg + 1) W 3 (.slice a i c) (seg p i)
theorem G0.step {Bg : Nat} {w1 W W' : World} {a : Option Addr} {c p i : Nat} (h : G0 Bg w1 a c p i W) (hb : Below W.heap.size W W') (hB : Bg ≤ W.heap.size) : G0 Bg w1 a c p i W' :=
  ⟨h.bel.trans (hb.mono hB), (hb.block _ (Array.getElem?_eq_some_iff.1 h.box).1).trans h.box, h.own.below hb⟩
theorem G0.put {Bg : Nat} {w1 W W' : World} {a : Option Addr} {c p i : Nat} {v' : Value} (h : G0 Bg w1 a c p i W) (hB : Bg + 1 ≤ W.heap.size) (hg : W.grownBy W' (Value.slice a i c).ownBlock)
    (ho : W'.ownsRow (Bg + 1) 3 1 v' (i + 1) ((seg p i).flatMap (fun n => [I n]) ++ [I ((p + i : Nat) : Int)])) :
    (W'.heap[Bg]? = some (.cells #[.slice a i c, .slice none 0 0] 36 (0, 0))) ∧ ∃ a' c', v' = .slice a' (i + 1) c' ∧ G0 Bg w1 a' c' p (i + 1) (W'.setCell ⟨Bg, 0, none⟩ v') := by
  have hne : some Bg ≠ (Value.slice a i c).ownBlock := fun e => by have := h.own.blk _ e.symm; omega
  have hbx := (hg.block Bg (by omega) hne).trans h.box
  have hO : Owns (fun n => [I n]) 1 (Bg + 1) W' 3 v' (seg p (i + 1)) := by
    rw [seg_succ]; refine Owns.snoc ?_; rw [seg_len]; exact ho
  obtain ⟨⟨a', c'⟩, hs, hr⟩ := own_row hO
  rw [seg_len] at hs
  refine ⟨hbx, a', c', hs, ?_⟩
  have hB' : Bg ≤ W'.heap.size := Nat.le_trans (by omega) hg.size
  refine ⟨?_, ?_, ?_⟩
  · exact (h.bel.grown hg (by omega) (fun k hk => by have := h.own.blk k hk; omega)).setCell (p := ⟨Bg, 0, none⟩) (Nat.le_refl _) v'
  · rw [heap_setCell_same _ _ _ _ _ _ hbx, hs]; rfl
  · rw [hs] at hO ⊢
    exact own_kept hO (grown_set _ _ _ _) (fun m hm e => by have := hO.blk m hm; cases e; omega)
/-- One group while its second row is filled. -/
structure G1 (Bg : Nat) (w1 : World) (B1 : Nat) (a : Option Addr) (c : Nat) (p m : Nat) (a1 : Option Addr) (c1 : Nat) (i : Nat) (W : World) : Prop where
  bel : Below Bg w1 W
  box : W.heap[Bg]? = some (.cells #[.slice a m c, .slice a1 i c1] 36 (0, 0))
  own : Owns (fun n => [I n]) 1 (Bg + 1) W 3 (.slice a m c) (seg p m)
  lt : ∀ j, (Value.slice a m c).ownBlock = some j → j < B1
  own1 : Owns (fun n => [I n]) 1 B1 W 3 (.slice a1 i c1) (seg (p + m) i)
  sz : B1 ≤ W.heap.size
theorem G0.next {Bg : Nat} {w1 W : World} {a : Option Addr} {c p m : Nat} (h : G0 Bg w1 a c p m W) : G1 Bg w1 W.heap.size a c p m none 0 0 W :=
  ⟨h.bel, h.box, h.own, own_lt h.own, Owns.nil, Nat.le_refl _⟩
theorem G1.step {Bg B1 : Nat} {w1 W W' : World} {a a1 : Option Addr} {c p m c1 i : Nat} (h : G1 Bg w1 B1 a c p m a1 c1 i W) (hb : Below W.heap.size W W') (hB : Bg ≤ W.heap.size) : G1 Bg w1 B1 a c p m a1 c1 i W' :=
  ⟨h.bel.trans (hb.mono hB), (hb.block _ (Array.getElem?_eq_some_iff.1 h.box).1).trans h.box, h.own.below hb, h.lt, h.own1.below hb, Nat.le_trans h.sz hb.size⟩
theorem G1.put {Bg B1 : Nat} {w1 W W' : World} {a a1 : Option Addr} {c p m c1 i : Nat} {v' : Value} (h : G1 Bg w1 B1 a c p m a1 c1 i W) (h1 : Bg < B1) (hB : B1 ≤ W.heap.size) (hg : W.grownBy W' (Value.slice a1 i c1).ownBlock)
    (ho : W'.ownsRow B1 3 1 v' (i + 1) ((seg (p + m) i).flatMap (fun n => [I n]) ++ [I ((p + m + i : Nat) : Int)])) :
    (W'.heap[Bg]? = some (.cells #[.slice a m c, .slice a1 i c1] 36 (0, 0))) ∧ ∃ a' c', v' = .slice a' (i + 1) c' ∧ G1 Bg w1 B1 a c p m a' c' (i + 1) (W'.setCell ⟨Bg, 1, none⟩ v') := by
  have hne : some Bg ≠ (Value.slice a1 i c1).ownBlock := fun e => by have := h.own1.blk _ e.symm; omega
  have hbx := (hg.block Bg (by omega) hne).trans h.box
  have hO : Owns (fun n => [I n]) 1 B1 W' 3 v' (seg (p + m) (i + 1)) := by
    rw [seg_succ]; refine Owns.snoc ?_; rw [seg_len]; exact ho
  have hO0 : Owns (fun n => [I n]) 1 (Bg + 1) W' 3 (.slice a m c) (seg p m) := own_kept h.own hg (fun j hj e => by have := h.lt j hj; have := h.own1.blk j e; omega)
  obtain ⟨⟨a', c'⟩, hs, hr⟩ := own_row hO
  rw [seg_len] at hs
  refine ⟨hbx, a', c', hs, ?_⟩
  have hB' : Bg ≤ W'.heap.size := Nat.le_trans (by omega) hg.size
  refine ⟨?_, ?_, ?_, h.lt, ?_, by simp; exact Nat.le_trans h.sz hg.size⟩
  · exact (h.bel.grown hg (by omega) (fun k hk => by have := h.own1.blk k hk; omega)).setCell (p := ⟨Bg, 1, none⟩) (Nat.le_refl _) v'
  · rw [heap_setCell_same _ _ _ _ _ _ hbx, hs]; rfl
  · exact own_kept hO0 (grown_set _ _ _ _) (fun m hm e => by have := hO0.blk m hm; cases e; omega)
  · rw [hs] at hO ⊢
    exact own_kept hO (grown_set _ _ _ _) (fun m hm e => by have := hO.blk m hm; cases e; omega)
/-- The groups so far. -/
structure GS (w : World) (tb : Nat) (cs : List Value) (ga : Option Addr) (gc : Nat) (g : Nat) (gs : List Gr) (W : World) : Prop where
  gb : w.grownBy W (some tb)
  tbk : W.heap[tb]? = some (.cells (cs.set 104 (.slice ga g gc)).toArray 32 (0, 0))
  own : Owns Gr.cells 2 w.heap.size W 36 (.slice ga g gc) gs
  len : gs.length = g
  rows : ∀ x ∈ gs, RowI W x.s0 x.r0 ∧ RowI W x.s1 x.r1
theorem GS.step {w W W' : World} {tb : Nat} {cs : List Value} {ga : Option Addr} {gc g : Nat} {gs : List Gr} (h : GS w tb cs ga gc g gs W) (hb : Below W.heap.size W W') : GS w tb cs ga gc g gs W' :=
  ⟨grown_trans h.gb (grown_below hb none) (fun m e => by cases e), (hb.block _ (Array.getElem?_eq_some_iff.1 h.tbk).1).trans h.tbk, h.own.below hb, h.len, fun x hx => ⟨(h.rows x hx).1.below hb, (h.rows x hx).2.below hb⟩⟩
theorem GS.put {w W W' : World} {tb : Nat} {cs : List Value} {ga : Option Addr} {gc g : Nat} {gs : List Gr} {v' : Value} (x : Gr) (h : GS w tb cs ga gc g gs W) (hx : RowI W x.s0 x.r0 ∧ RowI W x.s1 x.r1) (hg : W.grownBy W' (Value.slice ga g gc).ownBlock) (hc : cs.length = 131)
    (ho : W'.ownsRow w.heap.size 36 2 v' (g + 1) (gs.flatMap Gr.cells ++ x.cells)) :
    (W'.heap[tb]? = some (.cells (cs.set 104 (.slice ga g gc)).toArray 32 (0, 0))) ∧ ∃ a' c', v' = .slice a' (g + 1) c' ∧ GS w tb cs a' c' (g + 1) (gs ++ [x]) (W'.setCell ⟨tb, 104, none⟩ v') := by
  have hne : some tb ≠ (Value.slice ga g gc).ownBlock := fun e => own_ne h.own h.tbk (by decide) e.symm
  have hbx := (hg.block tb (Array.getElem?_eq_some_iff.1 h.tbk).1 hne).trans h.tbk
  have hO : Owns Gr.cells 2 w.heap.size W' 36 v' (gs ++ [x]) := Owns.snoc (by rw [h.len]; exact ho)
  obtain ⟨⟨a', c'⟩, hs, hr⟩ := Owns.row hO (fun _ => rfl)
  have hs2 : v' = .slice a' (g + 1) c' := by rw [hs, List.length_append, h.len]; rfl
  have hK : ∀ s l, RowI W s l → RowI (W'.setCell ⟨tb, 104, none⟩ v') s l := fun s l hr => by
    have h1 : RowI W' s l := hr.grown hg (fun y hy e => by
      obtain ⟨ds, hd⟩ := own_type h.own _ e.symm
      exact hr.ne hd (by decide) y hy rfl)
    exact h1.grown (grown_set _ _ _ _) (fun y hy e => h1.ne hbx (by decide) y hy (by cases e; rfl))
  refine ⟨hbx, a', c', hs2, ?_, ?_, ?_, by rw [List.length_append, h.len]; rfl, ?_⟩
  · exact grown_trans (grown_trans h.gb hg (fun m e => .inr (h.own.blk m e))) (grown_set _ _ _ _) (fun m e => .inl (by cases e; rfl))
  · rw [heap_setCell_same _ _ _ _ _ _ hbx, hs2]
    simp
  · rw [← hs2]
    exact own_kept hO (grown_set _ _ _ _) (fun m hm e => by cases e; exact own_ne hO hbx (by decide) hm)
  · intro y hy
    rcases List.mem_append.1 hy with hy | hy
    · exact ⟨hK _ _ (h.rows y hy).1, hK _ _ (h.rows y hy).2⟩
    · obtain rfl : y = x := by simpa using hy
      exact ⟨hK _ _ hx.1, hK _ _ hx.2⟩
theorem from_at (a : Option Addr) (cap : Nat) (L : List Int) (i j n : Int) (hij : i = j) (w : World) (h : IntRow w ⟨a, cap⟩ L) (h0 : 0 ≤ i) (hn : 0 < n) (hn' : n ≤ 1000) :
    Calls Try.prog 13 #[.slice a L.length cap, .int .i64 i, .int .i64 n] w fun e w' => e = .returned (.int .i64 (num L j n)) ∧ w = w' := by
  subst hij; exact from_any a cap L i n w h h0 hn hn'
theorem infoGz : (Try.prog.info? 36).map (fun i => (i.zero, i.size)) = some (some (.agg #[.slice none 0 0, .slice none 0 0]), 2) := by kernel_rfl
theorem infoG2 : (Try.prog.info? 36).map (·.size) = some 2 := by kernel_rfl
theorem infoG3 : (Try.prog.info? 36).map (fun i => (i.zero, i.size, i.bytes)) = some (some (.agg #[.slice none 0 0, .slice none 0 0]), 2, 48) := by kernel_rfl
end GenG
namespace May
open Go.ChangeShapes Go.WideShapes Go.ChangeAt Go.RowKit
open Tab
def listMay {α : Type} (m : Int) (f : α → Bool) (l : List α) : Bool := decide ((l.length : Int) ≤ m) && l.all f
def tabMay (T : Tab) : Bool :=
  listMay 8 Ph.may T.phases && (listMay 4 groupMay T.groups && (allIn 255 T.conflict && (listMay 16 Det.may T.dets && (listMay 4 Rl.may T.rails && (listMay 4 Bs.may T.buses &&
    (allIn 9999 [T.extend, T.budget, T.start, T.revert, T.least] && (allIn 2 T.flash && allIn 2147483647 [T.window, T.share])))))))
/-- Ints that lie in a block, as a row. -/
theorem ints_in {w : World} {g : Nat} {cs : Array Value} {t : TypeId} {fr : Nat × Nat} (hg : w.heap[g]? = some (.cells cs t fr)) (o n : Nat) (l : List Int) (h : (cs.toList.drop o).take n = l.map I) (hn : l.length = n) (hm : n ≤ maxLen) :
    IntRow w ⟨some ⟨g, o, none⟩, n⟩ l := by
  subst hn
  refine .inr ⟨_, rfl, Nat.le_refl _, hm, fun i v hv j u hu => ?_⟩
  cases j with
  | zero =>
    obtain rfl := Option.some.inj hu
    rw [Nat.mul_one, add_two, Nat.add_zero, Addr.add_mid]
    exact range_of hg o _ _ h i _ (by simp [hv])
  | succ j => cases hu
/-- Phases that lie at a block's head, as a row. -/
theorem phases_in {w : World} {g : Nat} {cs : Array Value} {t : TypeId} {fr : Nat × Nat} {T : Tab} {h : Hd} (hg : w.heap[g]? = some (.cells cs t fr)) (C : CellsOk T h cs) (hn : T.phases.length = 8) :
    RowOf 13 Ph.cells w ⟨some ⟨g, 0, none⟩, 8⟩ T.phases := by
  refine .inr ⟨_, rfl, by rw [hn]; exact Nat.le_refl _, (show 8 ≤ maxLen by decide), fun i v hv j u hu => ?_⟩
  rw [add_two, Addr.add_mid, Nat.zero_add, Nat.mul_comm]
  exact range_of hg (13 * i) 13 _ (C.phase i v hv) j u hu
/-- What a walk over a boxed table holds on to. -/
structure St (w : World) (N : Nat) (cs : Array Value) (h : Hd) (T : Tab) (W : World) : Prop where
  bel : Below w.heap.size w W
  blk : W.heap[N]? = some (.cells cs 32 (0, 0))
  tab : IsTab W h T
  le : w.heap.size ≤ N
theorem St.step {w W W' : World} {N : Nat} {cs : Array Value} {h : Hd} {T : Tab} (k : St w N cs h T W) (hb : Below W.heap.size W W') : St w N cs h T W' :=
  ⟨chain k.bel hb, by rw [hb.block N (Array.getElem?_eq_some_iff.1 k.blk).1]; exact k.blk, k.tab.below hb, k.le⟩
theorem St.cell {w W : World} {N : Nat} {cs : Array Value} {h : Hd} {T : Tab} (k : St w N cs h T W) {o : Nat} {v : Value} (hv : cs[o]? = some v) : W.cell? ⟨N, o, none⟩ = some v := by
  rw [cell_of_row _ _ _ _ _ _ k.blk]; exact hv
theorem St.box {w : World} {cs : Array Value} {h : Hd} {T : Tab} (k : IsTab w h T) : St w w.heap.size cs h T (w.alloc (.cells cs 32)) :=
  ⟨(Below.refl _ _).alloc (Nat.le_refl _) _, heap_alloc_new _ _, k.below ((Below.refl _ _).alloc (Nat.le_refl _) _), Nat.le_refl _⟩
theorem within_len (m : Int) (a : Option Addr) (cap : Nat) (l : List Int) (n : Nat) (hn : l.length = n) (w : World) (h : IntRow w ⟨a, cap⟩ l) :
    Calls Try.prog 53 #[.int .i64 m, .slice a n cap] w fun e w' => e = .returned (.bool (allIn m l)) ∧ w = w' := by
  subst hn; exact within_any m a cap l w h
theorem may_any (T : Tab) (h : Hd) (w : World) (k : IsTab w h T) :
    Calls Try.prog 34 #[.agg (T.cells h).toArray] w fun e w' => e = .returned (.bool (tabMay T)) ∧ Below w.heap.size w w' := by
  have C := Lib.hid (cells_ok k)
  have L8 := Lib.hid k.ph
  have Lc := Lib.hid k.cf
  have Lf := Lib.hid k.fl
  generalize (T.cells h).toArray = cs at C ⊢
  have hsz := C.out.size
  obtain ⟨gs, hgd, hgr⟩ := k.groups
  have Hgr := Lib.hid hgr
  clear hgr
  have hw0 : Below w.heap.size w (w.alloc (.cells cs 32)) := (Below.refl _ _).alloc (Nat.le_refl _) _
  have HW0 := Lib.hid hw0
  clear hw0
  have S0 := Lib.hid (St.box (cs := cs) k)
  clear k
  have Hgd := Lib.hid hgd
  have hgl : T.groups.length = gs.length := by rw [← hgd, List.length_map]
  have Hgl := Lib.hid hgl
  clear hgd hgl
  have hph := phases_in S0.out.blk C.out L8.out
  have cP := mayAllP_any 8 (some ⟨w.heap.size, 0, none⟩) 8 T.phases _ hph
  rw [L8.out] at cP
  have CP := Lib.hid cP
  clear cP hph
  have L8p : Hid ((8 : Nat) = T.phases.length) := L8.out.symm
  go_enter Try.func34, Try.ntmps34
  go_wp2_with fail
  refine (CP.out).mono ?_
  rintro e w1 ⟨rfl, hb1⟩
  have S1 := Lib.hid (S0.out.step hb1)
  clear hb1 S0
  generalize hv : (decide (((8 : Nat) : Int) ≤ 8) && T.phases.all Ph.may) = b1
  have HB1 : Hid (listMay 8 Ph.may T.phases = b1) := (by unfold listMay; rw [L8.out]; exact hv)
  clear hv
  cases b1
  · go_wp2
    go_ret
    exact ⟨ret_bool (by unfold tabMay; simp only [HB1.out, Bool.true_and, Bool.false_and, Bool.and_true, Bool.and_false]), S1.out.bel⟩
  have c104 := S1.out.cell C.out.g
  rw [Hgl.out] at c104
  go_wp2_with fail
  refine (mayAllG_any 4 h.g.a h.g.cap gs _ (Hgr.out.1.below S1.out.bel) (fun v hv => (Hgr.out.2 v hv).below S1.out.bel)).mono ?_
  rintro e w2 ⟨rfl, hb2⟩
  have S2 := Lib.hid (S1.out.step hb2)
  clear hb2 S1
  generalize hv : (decide ((gs.length : Int) ≤ 4) && gs.all (fun v => groupMay v.data)) = b2
  have HB2 : Hid (listMay 4 groupMay T.groups = b2) := (by unfold listMay; rw [← Hgd.out, List.length_map, List.all_map]; exact hv)
  clear hv
  cases b2
  · go_wp2
    go_ret
    exact ⟨ret_bool (by unfold tabMay; simp only [HB1.out, HB2.out, Bool.true_and, Bool.false_and, Bool.and_true, Bool.and_false]), S2.out.bel⟩
  go_wp2_with fail
  refine (within_len 255 (some ⟨w.heap.size, 105, none⟩) 8 T.conflict 8 Lc.out _ (ints_in S2.out.blk 105 8 _ C.out.conflict Lc.out (by decide))).mono ?_
  rintro e w3 ⟨rfl, rfl⟩
  have S3 := S2
  generalize hv : allIn 255 T.conflict = b3
  have HB3 : Hid (allIn 255 T.conflict = b3) := hv
  clear hv
  cases b3
  · go_wp2
    go_ret
    exact ⟨ret_bool (by unfold tabMay; simp only [HB1.out, HB2.out, HB3.out, Bool.true_and, Bool.false_and, Bool.and_true, Bool.and_false]), S3.out.bel⟩
  have c113 := S3.out.cell C.out.d
  go_wp2_with fail
  refine (mayAllD_any 16 h.d.a h.d.cap T.dets _ S3.out.tab.dets).mono ?_
  rintro e w4 ⟨rfl, hb4⟩
  have S4 := Lib.hid (S3.out.step hb4)
  clear hb4 S3
  generalize hv : (decide ((T.dets.length : Int) ≤ 16) && T.dets.all Det.may) = b4
  have HB4 : Hid (listMay 16 Det.may T.dets = b4) := hv
  clear hv
  cases b4
  · go_wp2
    go_ret
    exact ⟨ret_bool (by unfold tabMay; simp only [HB1.out, HB2.out, HB3.out, HB4.out, Bool.true_and, Bool.false_and, Bool.and_true, Bool.and_false]), S4.out.bel⟩
  have c114 := S4.out.cell C.out.r
  go_wp2_with fail
  refine (mayAllR_any 4 h.r.a h.r.cap T.rails _ S4.out.tab.rails).mono ?_
  rintro e w5 ⟨rfl, hb5⟩
  have S5 := Lib.hid (S4.out.step hb5)
  clear hb5 S4
  generalize hv : (decide ((T.rails.length : Int) ≤ 4) && T.rails.all Rl.may) = b5
  have HB5 : Hid (listMay 4 Rl.may T.rails = b5) := hv
  clear hv
  cases b5
  · go_wp2
    go_ret
    exact ⟨ret_bool (by unfold tabMay; simp only [HB1.out, HB2.out, HB3.out, HB4.out, HB5.out, Bool.true_and, Bool.false_and, Bool.and_true, Bool.and_false]), S5.out.bel⟩
  have c115 := S5.out.cell C.out.b
  go_wp2_with fail
  refine (mayAllB_any 4 h.b.a h.b.cap T.buses _ S5.out.tab.buses).mono ?_
  rintro e w6 ⟨rfl, hb6⟩
  have S6 := Lib.hid (S5.out.step hb6)
  clear hb6 S5
  generalize hv : (decide ((T.buses.length : Int) ≤ 4) && T.buses.all Bs.may) = b6
  have HB6 : Hid (listMay 4 Bs.may T.buses = b6) := hv
  clear hv
  cases b6
  · go_wp2
    go_ret
    exact ⟨ret_bool (by unfold tabMay; simp only [HB1.out, HB2.out, HB3.out, HB4.out, HB5.out, HB6.out, Bool.true_and, Bool.false_and, Bool.and_true, Bool.and_false]), S6.out.bel⟩
  have c116 := S6.out.cell C.out.extend
  have c117 := S6.out.cell C.out.budget
  have c118 := S6.out.cell C.out.start
  have c119 := S6.out.cell C.out.revert
  have c120 := S6.out.cell C.out.least
  go_wp2_with fail
  refine (within_any 9999 _ _ [T.extend, T.budget, T.start, T.revert, T.least] _ (row_new _ _ [T.extend, T.budget, T.start, T.revert, T.least] 5 rfl (by decide) _ rfl)).mono ?_
  rintro e w7 ⟨rfl, hw⟩
  have hb7 : Below w6.heap.size w6 w7 := hw ▸ (Below.refl _ _).alloc (Nat.le_refl _) _
  clear hw
  have S7 := Lib.hid (S6.out.step hb7)
  clear hb7 S6
  generalize hv : allIn 9999 [T.extend, T.budget, T.start, T.revert, T.least] = b7
  have HB7 : Hid (allIn 9999 [T.extend, T.budget, T.start, T.revert, T.least] = b7) := hv
  clear hv
  cases b7
  · go_wp2
    go_ret
    exact ⟨ret_bool (by unfold tabMay; simp only [HB1.out, HB2.out, HB3.out, HB4.out, HB5.out, HB6.out, HB7.out, Bool.true_and, Bool.false_and, Bool.and_true, Bool.and_false]), S7.out.bel⟩
  go_wp2_with fail
  refine (within_len 2 (some ⟨w.heap.size, 121, none⟩) 8 T.flash 8 Lf.out _ (ints_in S7.out.blk 121 8 _ C.out.flash Lf.out (by decide))).mono ?_
  rintro e w8 ⟨rfl, rfl⟩
  have S8 := S7
  generalize hv : allIn 2 T.flash = b8
  have HB8 : Hid (allIn 2 T.flash = b8) := hv
  clear hv
  cases b8
  · go_wp2
    go_ret
    exact ⟨ret_bool (by unfold tabMay; simp only [HB1.out, HB2.out, HB3.out, HB4.out, HB5.out, HB6.out, HB7.out, HB8.out, Bool.true_and, Bool.false_and, Bool.and_true, Bool.and_false]), S8.out.bel⟩
  have c129 := S8.out.cell C.out.window
  have c130 := S8.out.cell C.out.share
  go_wp2_with fail
  refine (within_any 2147483647 _ _ [T.window, T.share] _ (row_new _ _ [T.window, T.share] 2 rfl (by decide) _ rfl)).mono ?_
  rintro e w9 ⟨rfl, hw⟩
  have hb9 : Below w7.heap.size w7 w9 := hw ▸ (Below.refl _ _).alloc (Nat.le_refl _) _
  clear hw
  have S9 := Lib.hid (S8.out.step hb9)
  clear hb9 S8
  generalize hv : allIn 2147483647 [T.window, T.share] = b9
  have HB9 : Hid (allIn 2147483647 [T.window, T.share] = b9) := hv
  clear hv
  go_wp2
  go_ret
  exact ⟨ret_bool (by unfold tabMay; simp only [HB1.out, HB2.out, HB3.out, HB4.out, HB5.out, HB6.out, HB7.out, HB8.out, HB9.out, Bool.true_and, Bool.false_and, Bool.and_true, Bool.and_false]), S9.out.bel⟩
end May
namespace May
open Go.ChangeShapes Go.WideShapes Go.ChangeAt Go.RowKit
open Tab
def GAll (l : List Gr) : Prop := l.all (fun v => groupMay v.data) = true
theorem GAll.step {l : List Gr} {k : Nat} {v : Gr} (h : l[k]? = some v) (hk : GAll (l.take k)) (hv : groupMay v.data = true) : GAll (l.take (k + 1)) := all_step (f := fun v : Gr => groupMay v.data) h hk hv
theorem GAll.fin {l : List Gr} {k : Nat} (hk : GAll (l.take k)) (h : ¬ k < l.length) : l.all (fun v => groupMay v.data) = true := all_end (f := fun v : Gr => groupMay v.data) hk h
theorem infoT : (Try.prog.info? 32).map (·.size) = some 131 := by kernel_rfl
end May
namespace Copy
open Go Go.RowKit
open Tab
section
variable {P : Program}
theorem run_copy_rows (w : World) (dT sT ty elem : TypeId) (g dLen dCap : Nat) (a : Addr) (sLen sCap c n : Nat) (cur : Array Value) (t : TypeId) (cs : List Value)
    (hu : P.underlying dT = some (.slice elem)) (hs : (P.info? elem).map (·.size) = some c) (hg : w.heap[g]? = some (.cells cur t (0, 0))) (hn : n = Nat.min sLen dLen) (hc : cs.length = n * c)
    (hsrc : Lies w a cs) (hfit : cs.length = cur.size) (h1 : ∀ v ∈ cs, v.oneCell' = true) :
    (Builtin.copy_ #[dT, sT] ty #[.slice (some ⟨g, 0, none⟩) dLen dCap, .slice (some a) sLen sCap]).run P w = .ok (goInt n) (w.setRow g cs.toArray) := by
  have hl := run_loadCells_list (P := P) w a cs hsrc
  have hst := run_storeCells_at P g 0 t cs 0 cur w hg (by omega) h1
  cases hq : P.info? elem with
  | none => simp [hq] at hs
  | some i =>
    have hi : i.size = c := by simpa [hq] using hs
    rw [hc] at hl
    have he : cur.toList.take (0 + 0) ++ cs ++ cur.toList.drop (0 + 0 + cs.length) = cs := by
      rw [List.drop_of_length_le (by simp; omega)]; simp
    rw [he] at hst
    simp [Builtin.copy_, run_underlying hu, Builtin.lenOf, Builtin.firstCells, sizeOf, typeInfo, hq, hi, ← hn, hl, hst]
theorem run_copy_zero (w : World) (dT sT ty elem : TypeId) (dp sp : Option Addr) (dLen dCap sLen sCap : Nat) (hu : P.underlying dT = some (.slice elem)) (hs : ((P.info? elem).map (·.size)).isSome = true) (hn : Nat.min sLen dLen = 0) :
    (Builtin.copy_ #[dT, sT] ty #[.slice dp dLen dCap, .slice sp sLen sCap]).run P w = .ok (goInt 0) w := by
  cases hq : P.info? elem with
  | none => simp [hq] at hs
  | some i => cases dp <;> cases sp <;> simp [Builtin.copy_, run_underlying hu, Builtin.lenOf, Builtin.firstCells, sizeOf, typeInfo, hq, storeCells, hn, loadCells, loadCellsFrom]
/-- make([]T, n): a block of n times as many cells as an element has. -/
theorem wpList_make_rows {ops : Array Oper} {rest : List Oper} {o : Oper} {a : Act} {w : World} {Q : Exit → Act → World → Prop} (hg : o.guard = none) (l c : Operand) (t e : TypeId) (hop : o.op = Op.makeSlice t l c) (hu : P.underlying t = some (.slice e))
    (z : Value) (size bytes : Nat) (hi : (P.info? e).map (fun i => (i.zero, i.size, i.bytes)) = some (some z, size, bytes)) (n : Nat) (hl : a.eval l = .int .i64 (n : Int)) (hc : a.eval c = .int .i64 (n : Int)) (hn : n ≤ 1000) (hb : bytes ≤ 100000)
    (h : ∀ w' cur, w'.heap[w.heap.size]? = some (.cells cur e (0, 0)) → cur.size = n * size → Below w.heap.size w w' → w'.heap.size = w.heap.size + 1 → wpList P ops Q rest (a.put o.dst (.slice (some ⟨w.heap.size, 0, none⟩) n n)) w') : wpList P ops Q (o :: rest) a w := by
  obtain ⟨i, hi0, hz, hs, hby⟩ := info_parts hi
  refine wpList_plain hg fun K hK => ?_
  have hle : (i.bytes : Int) * (n : Int) ≤ 281474976710656 := by
    have h1 : i.bytes * n ≤ 100000 * 1000 := Nat.mul_le_mul (by omega) hn
    have h2 : (i.bytes : Int) * (n : Int) = ((i.bytes * n : Nat) : Int) := by simp
    omega
  have hrun := run_make (P := P) w t e i z hu hi0 hz .i64 .i64 (n : Int) (n : Int) (by omega) (by omega) hle (by omega)
  unfold Oper.wp
  simp only [execOp, hop, hl, hc, Sem.run_bind, hrun, Result.andThen_ok]
  refine hK _ _ (h _ _ (heap_alloc_new _ _) ?_ ((Below.refl _ _).alloc (Nat.le_refl _) _) (by simp))
  rw [size_madeCells, hs]; simp
/-- copy into all of a block of the call's own. -/
theorem wpList_copy_rows {ops : Array Oper} {rest : List Oper} {o : Oper} {a : Act} {w : World} {Q : Exit → Act → World → Prop} (hgd : o.guard = none) (d s : Operand) (dT sT elem : TypeId)
    (ho : o.op = .call { callee := .builtin .copy, args := #[d, s], argTypes := #[dT, sT] }) (hu : P.underlying dT = some (.slice elem)) (c : Nat) (hsz : (P.info? elem).map (·.size) = some c)
    (g n sCap : Nat) (sp : Option Addr) (hd : a.eval d = .slice (some ⟨g, 0, none⟩) n n) (hs : a.eval s = .slice sp n sCap) (cur : Array Value) (t : TypeId) (hg : w.heap[g]? = some (.cells cur t (0, 0)))
    (cs : List Value) (hcs : cs.length = n * c) (hcur : cur.size = n * c) (hsrc : 0 < n → ∃ x, sp = some x ∧ Lies w x cs) (h1 : ∀ v ∈ cs, v.oneCell' = true)
    (h : ∀ w', w'.heap[g]? = some (.cells cs.toArray t (0, 0)) → Below g w w' → w'.heap.size = w.heap.size → wpList P ops Q rest (a.put o.dst (goInt n)) w') : wpList P ops Q (o :: rest) a w := by
  refine wpList_plain hgd fun K hK => ?_
  by_cases h0 : n = 0
  · subst h0
    have hrun := run_copy_zero (P := P) w dT sT o.type elem (some ⟨g, 0, none⟩) sp 0 0 0 sCap hu (by rw [hsz]; rfl) rfl
    unfold Oper.wp
    simp [execOp, ho, resolve, invoke, builtin, hd, hs, hrun, Result.andThen]
    have e1 : cs = [] := List.eq_nil_of_length_eq_zero (by simpa using hcs)
    have e2 : cur = #[] := Array.eq_empty_of_size_eq_zero (by simpa using hcur)
    refine hK _ _ (h w ?_ (Below.refl _ _) rfl)
    rw [hg, e1, e2]
  · obtain ⟨x, rfl, hlx⟩ := hsrc (by omega)
    have hrun := run_copy_rows (P := P) w dT sT o.type elem g n n x n sCap c n cur t cs hu hsz hg (Nat.min_self n).symm hcs hlx (by omega) h1
    unfold Oper.wp
    simp [execOp, ho, resolve, invoke, builtin, hd, hs, hrun, Result.andThen]
    exact hK _ _ (h _ (setRow_heap w g cur cs.toArray t _ hg) (below_setRow (Below.refl _ _) (Nat.le_refl _) _) (by simp))
end
/-! ### a list's elements as one row -/
section
variable {α : Type} {n : Nat} {enc : α → List Value}
theorem flat_len (he : ∀ v, (enc v).length = n) (l : List α) : (l.flatMap enc).length = l.length * n := by
  induction l with
  | nil => simp
  | cons v l ih => rw [List.flatMap_cons, List.length_append, ih, he, List.length_cons, Nat.add_mul, Nat.one_mul, Nat.add_comm]
theorem lies_flat (he : ∀ v, (enc v).length = n) {w : World} {x : Addr} : ∀ (l : List α) (k : Nat), (∀ i v, l[i]? = some v → Lies w (x.add ((k + i) * n)) (enc v)) → Lies w (x.add (k * n)) (l.flatMap enc)
  | [], _, _ => fun j v hv => by simp at hv
  | u :: l, k, h => by
    have ih := lies_flat he l (k + 1) (fun i v hv => by have := h (i + 1) v (by simpa using hv); rwa [show k + (i + 1) = k + 1 + i by omega] at this)
    intro j v hv
    rw [List.flatMap_cons, List.getElem?_append] at hv
    split at hv
    · exact h 0 u rfl j v hv
    · rename_i hj
      have := ih (j - (enc u).length) v hv
      rw [add_two, he u, Nat.add_mul, Nat.one_mul, show k * n + n + (j - n) = k * n + j by rw [he u] at hj; omega] at this
      rw [add_two]; exact this
theorem flat_at (he : ∀ v, (enc v).length = n) : ∀ (l : List α) (i : Nat) (v : α) (j : Nat) (u : Value), l[i]? = some v → (enc v)[j]? = some u → (l.flatMap enc)[i * n + j]? = some u
  | x :: l, 0, v, j, u, h, hu => by
    obtain rfl := Option.some.inj h
    rw [List.flatMap_cons, Nat.zero_mul, Nat.zero_add, List.getElem?_append_left (List.getElem?_eq_some_iff.1 hu).1]; exact hu
  | x :: l, i + 1, v, j, u, h, hu => by
    have := flat_at he l i v j u (by simpa using h) hu
    rw [List.flatMap_cons, List.getElem?_append_right (by rw [he, Nat.add_mul]; omega), he, Nat.add_mul, Nat.one_mul, show i * n + n + j - n = i * n + j by omega]
    exact this
/-- A block that holds just a list's elements, as a slice over it. -/
theorem row_of_block (he : ∀ v, (enc v).length = n) {w : World} {g : Nat} {t : TypeId} {fr : Nat × Nat} (l : List α) (hg : w.heap[g]? = some (.cells (l.flatMap enc).toArray t fr)) (hl : l.length ≤ maxLen) : RowOf n enc w ⟨some ⟨g, 0, none⟩, l.length⟩ l := by
  refine .inr ⟨_, rfl, Nat.le_refl _, hl, fun i v hv j u hu => ?_⟩
  rw [add_two, Addr.add_mid, cell_of_row _ _ _ _ _ _ hg, Nat.zero_add]
  simpa using flat_at he l i v j u hv hu
theorem RowOf.flat (he : ∀ v, (enc v).length = n) {w : World} {s : Sl} {l : List α} (h : RowOf n enc w s l) (h0 : 0 < l.length) : ∃ x, s.a = some x ∧ Lies w x (l.flatMap enc) := by
  rcases h with ⟨_, _, rfl⟩ | ⟨x, h1, h2, h3, h4⟩
  · simp at h0
  · refine ⟨x, h1, ?_⟩
    have := lies_flat (x := x) he l 0 (fun i v hv => by rw [Nat.zero_add]; exact h4 i v hv)
    rwa [Nat.zero_mul, add_zero] at this
theorem flat_one (ho : ∀ v, (enc v).toArray.all (·.oneCell') = true) (l : List α) : ∀ u ∈ l.flatMap enc, u.oneCell' = true := by
  intro u hu
  obtain ⟨v, _, hv⟩ := List.mem_flatMap.1 hu
  have := ho v
  rw [List.all_toArray] at this
  exact List.all_eq_true.1 this u hv
end
end Copy
namespace Clone
open Go.ChangeShapes Go.WideShapes Go.ChangeAt Go.RowKit
open Tab Copy
open May (chain infoP infoG infoD infoR infoB)
/-- What fresh hands back: a new block that holds just the elements. -/
def Fresh (e : TypeId) (cs : List Value) (n : Nat) (w : World) (r : Ending) (w' : World) : Prop :=
  r = .returned (.slice (some ⟨w.heap.size, 0, none⟩) n n) ∧ w'.heap[w.heap.size]? = some (.cells cs.toArray e (0, 0)) ∧ Below w.heap.size w w' ∧ w'.heap.size = w.heap.size + 1
theorem infoI : (Try.prog.info? 3).map (·.size) = some 1 := by kernel_rfl
theorem zI : (Try.prog.info? 3).map (fun i => (i.zero, i.size, i.bytes)) = some (some (.int .i64 0), 1, 8) := by kernel_rfl
theorem zG : (Try.prog.info? 36).map (fun i => (i.zero, i.size, i.bytes)) = some (some (.agg #[.slice none 0 0, .slice none 0 0]), 2, 48) := by kernel_rfl
theorem zD : (Try.prog.info? 39).map (fun i => (i.zero, i.size, i.bytes)) = some (some (.agg #[.int .i64 0, .float .f64 0, .float .f64 0, .float .f64 0, .float .f64 0, .int .i64 0, .int .i64 0]), 7, 56) := by kernel_rfl
theorem zR : (Try.prog.info? 41).map (fun i => (i.zero, i.size, i.bytes)) = some (some (.agg #[.int .i64 0, .int .i64 0, .int .i64 0, .int .i64 0, .int .i64 0, .int .i64 0, .int .i64 0, .int .i64 0, .int .i64 0, .int .i64 0, .int .i64 0]), 11, 88) := by kernel_rfl
theorem zB : (Try.prog.info? 43).map (fun i => (i.zero, i.size, i.bytes)) = some (some (.agg #[.int .i64 0, .int .i64 0]), 2, 16) := by kernel_rfl
theorem RowOf_flat {α : Type} {n : Nat} {enc : α → List Value} (he : ∀ v, (enc v).length = n) {w : World} {s : Sl} {l : List α} (h : RowOf n enc w s l) (h0 : 0 < l.length) : ∃ x, s.a = some x ∧ Lies w x (l.flatMap enc) := Copy.RowOf.flat he h h0
theorem freshI_any (a : Option Addr) (cap : Nat) (l : List Int) (w : World) (h : RowOf 1 (fun n => [I n]) w ⟨a, cap⟩ l) (hl : l.length ≤ 1000) :
    Calls Try.prog 19 #[.slice a l.length cap] w fun r w' => Fresh 3 (l.flatMap (fun n => [I n])) l.length w r w' := by
  have Hr := Lib.hid h
  have Hl := Lib.hid hl
  have hln := h.len
  unfold maxLen at hln
  clear h hl
  go_enter Try.func19, Try.ntmps19
  go_wp2_with (at_make; refine wpList_make_rows rfl _ _ 22 3 rfl Try.underlying22 _ 1 _ zI l.length rfl rfl Hl.out (by omega) ?_)
  intro w1 cur hg hsz hb hz
  have HZ := Lib.hid hz
  have HG := Lib.hid hg
  have HB := Lib.hid hb
  have HS := Lib.hid hsz
  have HF := Lib.hid (fun h0 => RowOf_flat (n := 1) (enc := (fun n => [I n])) (fun _ => rfl) (Hr.out.below HB.out) h0)
  have HO := Lib.hid (flat_one (enc := (fun n => [I n])) (fun v => by simp [Value.oneCell']) l)
  have HL := Lib.hid (flat_len (n := 1) (enc := (fun n => [I n])) (fun _ => rfl) l)
  clear hg hb hsz hz
  go_wp2_with (refine wpList_copy_rows rfl _ _ 22 22 3 rfl Try.underlying22 1 infoI w.heap.size l.length cap a rfl rfl cur 3 HG.out (l.flatMap (fun n => [I n])) (by have := HL.out; omega) (by have := HS.out; omega) HF.out HO.out ?_)
  intro w2 hg2 hb2 hz2
  have HZ2 := Lib.hid (hz2.trans HZ.out)
  have HG2 := Lib.hid hg2
  have HB2 := Lib.hid (HB.out.trans hb2)
  clear hg2 hb2 hz2
  go_wp2
  go_ret
  exact ⟨rfl, HG2.out, HB2.out, HZ2.out⟩
theorem freshG_any (a : Option Addr) (cap : Nat) (l : List Gr) (w : World) (h : RowOf 2 Gr.cells w ⟨a, cap⟩ l) (hl : l.length ≤ 1000) :
    Calls Try.prog 18 #[.slice a l.length cap] w fun r w' => Fresh 36 (l.flatMap Gr.cells) l.length w r w' := by
  have Hr := Lib.hid h
  have Hl := Lib.hid hl
  have hln := h.len
  unfold maxLen at hln
  clear h hl
  go_enter Try.func18, Try.ntmps18
  go_wp2_with (at_make; refine wpList_make_rows rfl _ _ 26 36 rfl Try.underlying26 _ 2 _ zG l.length rfl rfl Hl.out (by omega) ?_)
  intro w1 cur hg hsz hb hz
  have HZ := Lib.hid hz
  have HG := Lib.hid hg
  have HB := Lib.hid hb
  have HS := Lib.hid hsz
  have HF := Lib.hid (fun h0 => RowOf_flat (n := 2) (enc := Gr.cells) (fun _ => rfl) (Hr.out.below HB.out) h0)
  have HO := Lib.hid (flat_one (enc := Gr.cells) Gr.one l)
  have HL := Lib.hid (flat_len (n := 2) (enc := Gr.cells) (fun _ => rfl) l)
  clear hg hb hsz hz
  go_wp2_with (refine wpList_copy_rows rfl _ _ 26 26 36 rfl Try.underlying26 2 infoG w.heap.size l.length cap a rfl rfl cur 36 HG.out (l.flatMap Gr.cells) (by have := HL.out; omega) (by have := HS.out; omega) HF.out HO.out ?_)
  intro w2 hg2 hb2 hz2
  have HZ2 := Lib.hid (hz2.trans HZ.out)
  have HG2 := Lib.hid hg2
  have HB2 := Lib.hid (HB.out.trans hb2)
  clear hg2 hb2 hz2
  go_wp2
  go_ret
  exact ⟨rfl, HG2.out, HB2.out, HZ2.out⟩
theorem freshD_any (a : Option Addr) (cap : Nat) (l : List Det) (w : World) (h : RowOf 7 Det.cells w ⟨a, cap⟩ l) (hl : l.length ≤ 1000) :
    Calls Try.prog 20 #[.slice a l.length cap] w fun r w' => Fresh 39 (l.flatMap Det.cells) l.length w r w' := by
  have Hr := Lib.hid h
  have Hl := Lib.hid hl
  have hln := h.len
  unfold maxLen at hln
  clear h hl
  go_enter Try.func20, Try.ntmps20
  go_wp2_with (at_make; refine wpList_make_rows rfl _ _ 28 39 rfl Try.underlying28 _ 7 _ zD l.length rfl rfl Hl.out (by omega) ?_)
  intro w1 cur hg hsz hb hz
  have HZ := Lib.hid hz
  have HG := Lib.hid hg
  have HB := Lib.hid hb
  have HS := Lib.hid hsz
  have HF := Lib.hid (fun h0 => RowOf_flat (n := 7) (enc := Det.cells) (fun _ => rfl) (Hr.out.below HB.out) h0)
  have HO := Lib.hid (flat_one (enc := Det.cells) Det.one l)
  have HL := Lib.hid (flat_len (n := 7) (enc := Det.cells) (fun _ => rfl) l)
  clear hg hb hsz hz
  go_wp2_with (refine wpList_copy_rows rfl _ _ 28 28 39 rfl Try.underlying28 7 infoD w.heap.size l.length cap a rfl rfl cur 39 HG.out (l.flatMap Det.cells) (by have := HL.out; omega) (by have := HS.out; omega) HF.out HO.out ?_)
  intro w2 hg2 hb2 hz2
  have HZ2 := Lib.hid (hz2.trans HZ.out)
  have HG2 := Lib.hid hg2
  have HB2 := Lib.hid (HB.out.trans hb2)
  clear hg2 hb2 hz2
  go_wp2
  go_ret
  exact ⟨rfl, HG2.out, HB2.out, HZ2.out⟩
theorem freshR_any (a : Option Addr) (cap : Nat) (l : List Rl) (w : World) (h : RowOf 11 Rl.cells w ⟨a, cap⟩ l) (hl : l.length ≤ 1000) :
    Calls Try.prog 21 #[.slice a l.length cap] w fun r w' => Fresh 41 (l.flatMap Rl.cells) l.length w r w' := by
  have Hr := Lib.hid h
  have Hl := Lib.hid hl
  have hln := h.len
  unfold maxLen at hln
  clear h hl
  go_enter Try.func21, Try.ntmps21
  go_wp2_with (at_make; refine wpList_make_rows rfl _ _ 29 41 rfl Try.underlying29 _ 11 _ zR l.length rfl rfl Hl.out (by omega) ?_)
  intro w1 cur hg hsz hb hz
  have HZ := Lib.hid hz
  have HG := Lib.hid hg
  have HB := Lib.hid hb
  have HS := Lib.hid hsz
  have HF := Lib.hid (fun h0 => RowOf_flat (n := 11) (enc := Rl.cells) (fun _ => rfl) (Hr.out.below HB.out) h0)
  have HO := Lib.hid (flat_one (enc := Rl.cells) Rl.one l)
  have HL := Lib.hid (flat_len (n := 11) (enc := Rl.cells) (fun _ => rfl) l)
  clear hg hb hsz hz
  go_wp2_with (refine wpList_copy_rows rfl _ _ 29 29 41 rfl Try.underlying29 11 infoR w.heap.size l.length cap a rfl rfl cur 41 HG.out (l.flatMap Rl.cells) (by have := HL.out; omega) (by have := HS.out; omega) HF.out HO.out ?_)
  intro w2 hg2 hb2 hz2
  have HZ2 := Lib.hid (hz2.trans HZ.out)
  have HG2 := Lib.hid hg2
  have HB2 := Lib.hid (HB.out.trans hb2)
  clear hg2 hb2 hz2
  go_wp2
  go_ret
  exact ⟨rfl, HG2.out, HB2.out, HZ2.out⟩
theorem freshB_any (a : Option Addr) (cap : Nat) (l : List Bs) (w : World) (h : RowOf 2 Bs.cells w ⟨a, cap⟩ l) (hl : l.length ≤ 1000) :
    Calls Try.prog 22 #[.slice a l.length cap] w fun r w' => Fresh 43 (l.flatMap Bs.cells) l.length w r w' := by
  have Hr := Lib.hid h
  have Hl := Lib.hid hl
  have hln := h.len
  unfold maxLen at hln
  clear h hl
  go_enter Try.func22, Try.ntmps22
  go_wp2_with (at_make; refine wpList_make_rows rfl _ _ 30 43 rfl Try.underlying30 _ 2 _ zB l.length rfl rfl Hl.out (by omega) ?_)
  intro w1 cur hg hsz hb hz
  have HZ := Lib.hid hz
  have HG := Lib.hid hg
  have HB := Lib.hid hb
  have HS := Lib.hid hsz
  have HF := Lib.hid (fun h0 => RowOf_flat (n := 2) (enc := Bs.cells) (fun _ => rfl) (Hr.out.below HB.out) h0)
  have HO := Lib.hid (flat_one (enc := Bs.cells) Bs.one l)
  have HL := Lib.hid (flat_len (n := 2) (enc := Bs.cells) (fun _ => rfl) l)
  clear hg hb hsz hz
  go_wp2_with (refine wpList_copy_rows rfl _ _ 30 30 43 rfl Try.underlying30 2 infoB w.heap.size l.length cap a rfl rfl cur 43 HG.out (l.flatMap Bs.cells) (by have := HL.out; omega) (by have := HS.out; omega) HF.out HO.out ?_)
  intro w2 hg2 hb2 hz2
  have HZ2 := Lib.hid (hz2.trans HZ.out)
  have HG2 := Lib.hid hg2
  have HB2 := Lib.hid (HB.out.trans hb2)
  clear hg2 hb2 hz2
  go_wp2
  go_ret
  exact ⟨rfl, HG2.out, HB2.out, HZ2.out⟩
end Clone
namespace Owned
open Go Go.RowKit
open Tab Copy
structure Blk where
  at_ : Nat
  cells : List Value
  type : TypeId
def Own (B : Nat) (w : World) (L : List Blk) : Prop := (L.map Blk.at_).Nodup ∧ ∀ x ∈ L, B ≤ x.at_ ∧ w.heap[x.at_]? = some (.cells x.cells.toArray x.type (0, 0))
variable {B : Nat} {w w' : World} {L M : List Blk} {x : Blk}
theorem Own.nil : Own B w [] := ⟨by simp, fun x h => by simp at h⟩
theorem Own.get (h : Own B w L) (hx : x ∈ L) : w.heap[x.at_]? = some (.cells x.cells.toArray x.type (0, 0)) := (h.2 x hx).2
theorem Own.base (h : Own B w L) (hx : x ∈ L) : B ≤ x.at_ := (h.2 x hx).1
theorem Own.lt (h : Own B w L) (hx : x ∈ L) : x.at_ < w.heap.size := (Array.getElem?_eq_some_iff.1 (h.get hx)).1
theorem Own.step (h : Own B w L) (hb : Below w.heap.size w w') : Own B w' L := ⟨h.1, fun x hx => ⟨h.base hx, by rw [hb.block _ (h.lt hx)]; exact h.get hx⟩⟩
theorem Own.same (h : Own B w L) (hs : w'.heap = w.heap) : Own B w' L := ⟨h.1, fun x hx => ⟨h.base hx, by rw [hs]; exact h.get hx⟩⟩
theorem Own.perm (h : Own B w L) (hp : M.Perm L) : Own B w M := ⟨(hp.map Blk.at_).nodup_iff.2 h.1, fun x hx => h.2 x (hp.mem_iff.1 hx)⟩
theorem Own.tail (h : Own B w (x :: L)) : Own B w L := ⟨(List.nodup_cons.1 h.1).2, fun y hy => h.2 y (List.mem_cons_of_mem _ hy)⟩
/-- A new block. -/
theorem Own.add (h : Own B w L) (hb : Below w.heap.size w w') {g : Nat} {cs : List Value} {t : TypeId} (hg : w'.heap[g]? = some (.cells cs.toArray t (0, 0))) (hn : w.heap.size ≤ g) (hB : B ≤ w.heap.size) : Own B w' (⟨g, cs, t⟩ :: L) := by
  refine ⟨List.nodup_cons.2 ⟨fun hm => ?_, h.1⟩, fun y hy => ?_⟩
  · obtain ⟨y, hy, e⟩ := List.mem_map.1 hm
    have := h.lt hy
    have e' : y.at_ = g := e
    omega
  · rcases List.mem_cons.1 hy with rfl | hy
    · exact ⟨Nat.le_trans hB hn, hg⟩
    · exact (h.step hb).2 y hy
/-- The first block is written. -/
theorem Own.write (h : Own B w (x :: L)) {cs : List Value} (hg : w'.heap[x.at_]? = some (.cells cs.toArray x.type (0, 0))) (ho : ∀ j, j ≠ x.at_ → w'.heap[j]? = w.heap[j]?) : Own B w' (⟨x.at_, cs, x.type⟩ :: L) := by
  have hx := (List.nodup_cons.1 h.1).1
  refine ⟨List.nodup_cons.2 ⟨hx, (List.nodup_cons.1 h.1).2⟩, fun y hy => ?_⟩
  rcases List.mem_cons.1 hy with rfl | hy
  · exact ⟨(h.base (x := x) (List.mem_cons_self ..) : B ≤ x.at_), hg⟩
  · have hne : y.at_ ≠ x.at_ := fun e => hx (List.mem_map.2 ⟨y, hy, e⟩)
    exact ⟨h.base (List.mem_cons_of_mem _ hy), by rw [ho _ hne]; exact h.get (List.mem_cons_of_mem _ hy)⟩
/-- Block number i of the list is written. -/
theorem Own.write_at {i : Nat} (h : Own B w L) (hx : L[i]? = some x) {cs : List Value} (hg : w'.heap[x.at_]? = some (.cells cs.toArray x.type (0, 0))) (ho : ∀ j, j ≠ x.at_ → w'.heap[j]? = w.heap[j]?) : Own B w' (L.set i ⟨x.at_, cs, x.type⟩) := by
  have hi : i < L.length := (List.getElem?_eq_some_iff.1 hx).1
  have hxi : L[i] = x := (List.getElem?_eq_some_iff.1 hx).2
  have hm : (L.set i ⟨x.at_, cs, x.type⟩).map Blk.at_ = L.map Blk.at_ := by
    rw [List.map_set]
    apply List.ext_getElem?
    intro j
    rw [List.getElem?_set]
    split
    · rename_i e
      subst e
      simp [hi, hxi]
    · rfl
  refine ⟨by rw [hm]; exact h.1, fun y hy => ?_⟩
  obtain ⟨j, hj⟩ := List.getElem?_of_mem hy
  rw [List.getElem?_set] at hj
  split at hj
  · rename_i e
    subst e
    obtain rfl := Option.some.inj hj
    exact ⟨(h.base (x := x) (List.mem_of_getElem? hx) : B ≤ x.at_), hg⟩
  · rename_i e
    have hyL := List.mem_of_getElem? hj
    have hne : y.at_ ≠ x.at_ := fun e' => by
      have h1 : (L.map Blk.at_)[j]? = some y.at_ := by rw [List.getElem?_map, hj]; rfl
      have h2 : (L.map Blk.at_)[i]? = some x.at_ := by rw [List.getElem?_map, hx]; rfl
      have hjl := (List.getElem?_eq_some_iff.1 h1).1
      have hil := (List.getElem?_eq_some_iff.1 h2).1
      have e1 := (List.getElem?_eq_some_iff.1 h1).2
      have e2 := (List.getElem?_eq_some_iff.1 h2).2
      have hp := List.pairwise_iff_getElem.1 h.1
      rcases Nat.lt_trichotomy i j with h3 | h3 | h3
      · exact hp i j hil hjl h3 (by rw [e1, e2, e'])
      · exact e h3
      · exact hp j i hjl hil h3 (by rw [e1, e2, e'])
    exact ⟨h.base hyL, by rw [ho _ hne]; exact h.get hyL⟩
theorem Own.row_at {i : Nat} (h : Own B w L) (hx : L[i]? = some x) (cs : List Value) : Own B (w.setRow x.at_ cs.toArray) (L.set i ⟨x.at_, cs, x.type⟩) :=
  h.write_at hx (setRow_heap _ _ _ _ _ _ (h.get (List.mem_of_getElem? hx))) (fun j hj => setRow_other _ _ _ _ hj)
theorem Own.cell_at {i : Nat} (h : Own B w L) (hx : L[i]? = some x) (o : Nat) (v : Value) : Own B (w.setCell ⟨x.at_, o, none⟩ v) (L.set i ⟨x.at_, x.cells.set o v, x.type⟩) := by
  refine h.write_at hx ?_ (fun j hj => heap_setCell_other _ _ _ _ hj)
  rw [heap_setCell_same _ _ _ _ _ _ (h.get (List.mem_of_getElem? hx))]
  congr 2
  simp
theorem Own.cell (h : Own B w L) (hx : x ∈ L) (i : Nat) : w.cell? ⟨x.at_, i, none⟩ = x.cells[i]? := by
  rw [cell_of_row _ _ _ _ _ _ (h.get hx)]; simp
theorem Own.frozen (h : Own B w L) (hx : x ∈ L) (i : Nat) : w.frozen? ⟨x.at_, i, none⟩ = false := frozen_of_row _ _ _ _ _ (h.get hx)
/-- What is below B stays as it is when one's own is written. -/
theorem below_write {a : World} (hb : Below B a w) {g i : Nat} (hg : B ≤ g) (v : Value) : Below B a (w.setCell ⟨g, i, none⟩ v) := hb.setCell (p := ⟨g, i, none⟩) hg v
end Owned
namespace Clone
open Go.ChangeShapes Go.WideShapes Go.ChangeAt Go.RowKit
open Tab Copy Owned
open May (chain infoP infoG infoD infoR infoB infoT)
/-- A group whose rows are blocks of their own. -/
structure NG where
  r0 : List Int
  r1 : List Int
  b0 : Nat
  b1 : Nat
def NG.gr (g : NG) : Gr := ⟨g.r0, g.r1, ⟨some ⟨g.b0, 0, none⟩, g.r0.length⟩, ⟨some ⟨g.b1, 0, none⟩, g.r1.length⟩⟩
def NG.blks (g : NG) : List Blk := [⟨g.b0, g.r0.flatMap (fun n => [I n]), 3⟩, ⟨g.b1, g.r1.flatMap (fun n => [I n]), 3⟩]
structure Small (T : Tab) : Prop where
  groups : T.groups.length ≤ 1000
  rows : ∀ g ∈ T.groups, g.1.length ≤ 1000 ∧ g.2.length ≤ 1000
  dets : T.dets.length ≤ 1000
  rails : T.rails.length ≤ 1000
  buses : T.buses.length ≤ 1000
abbrev at0 (g n : Nat) : Sl := ⟨some ⟨g, 0, none⟩, n⟩
/-- Where a clone's parts lie. -/
def own (T : Tab) (ns : List NG) (G D R S : Nat) : List Blk :=
  ⟨G, (ns.map NG.gr).flatMap Gr.cells, 36⟩ :: ⟨D, T.dets.flatMap Det.cells, 39⟩ :: ⟨R, T.rails.flatMap Rl.cells, 41⟩ :: ⟨S, T.buses.flatMap Bs.cells, 43⟩ :: ns.flatMap NG.blks
def hd (T : Tab) (G D R S : Nat) : Hd := ⟨at0 G T.groups.length, at0 D T.dets.length, at0 R T.rails.length, at0 S T.buses.length⟩
theorem ng_ok {B : Nat} {w : World} {L : List Blk} {ns : List NG} (h : Owned.Own B w L) (hs : ∀ x ∈ ns.flatMap NG.blks, x ∈ L) (hl : ∀ g ∈ ns, g.r0.length ≤ maxLen ∧ g.r1.length ≤ maxLen) : ∀ g ∈ ns.map NG.gr, g.ok w := by
  intro g hg
  obtain ⟨n, hn, rfl⟩ := List.mem_map.1 hg
  have h0 := h.get (hs ⟨n.b0, n.r0.flatMap (fun n => [I n]), 3⟩ (List.mem_flatMap.2 ⟨n, hn, by simp [NG.blks]⟩))
  have h1 := h.get (hs ⟨n.b1, n.r1.flatMap (fun n => [I n]), 3⟩ (List.mem_flatMap.2 ⟨n, hn, by simp [NG.blks]⟩))
  exact ⟨row_of_block (n := 1) (enc := fun n => [I n]) (fun _ => rfl) _ h0 (hl n hn).1, row_of_block (n := 1) (enc := fun n => [I n]) (fun _ => rfl) _ h1 (hl n hn).2⟩
section
variable {T : Tab} {ns : List NG} {G D R S : Nat}
theorem own_g : (⟨G, (ns.map NG.gr).flatMap Gr.cells, 36⟩ : Blk) ∈ own T ns G D R S := List.mem_cons_self ..
theorem own_d : (⟨D, T.dets.flatMap Det.cells, 39⟩ : Blk) ∈ own T ns G D R S := List.mem_cons_of_mem _ (List.mem_cons_self ..)
theorem own_r : (⟨R, T.rails.flatMap Rl.cells, 41⟩ : Blk) ∈ own T ns G D R S := List.mem_cons_of_mem _ (List.mem_cons_of_mem _ (List.mem_cons_self ..))
theorem own_s : (⟨S, T.buses.flatMap Bs.cells, 43⟩ : Blk) ∈ own T ns G D R S := List.mem_cons_of_mem _ (List.mem_cons_of_mem _ (List.mem_cons_of_mem _ (List.mem_cons_self ..)))
end
/-- What a clone is. -/
theorem is_tab {B : Nat} {w : World} {T : Tab} {ns : List NG} {G D R S : Nat} (h1 : T.phases.length = 8) (h2 : T.conflict.length = 8) (h3 : T.flash.length = 8) (sm : Small T) (hd' : ns.map (fun g => (g.r0, g.r1)) = T.groups) (h : Owned.Own B w (own T ns G D R S)) : IsTab w (hd T G D R S) T := by
  have hm : (1000 : Nat) ≤ maxLen := by decide
  have hnl : ns.length = T.groups.length := by rw [← hd', List.length_map]
  refine ⟨h1, h2, h3, ⟨ns.map NG.gr, ?_, ?_, ?_⟩, ?_, ?_, ?_⟩
  · rw [← hd', List.map_map]; rfl
  · have := row_of_block (n := 2) (enc := Gr.cells) (fun _ => rfl) (ns.map NG.gr) (h.get own_g) (by rw [List.length_map, hnl]; exact Nat.le_trans sm.groups hm)
    rwa [List.length_map, hnl] at this
  · refine ng_ok h (fun x hx => by simp only [own, List.mem_cons]; exact .inr (.inr (.inr (.inr hx)))) (fun g hg => ?_)
    have := sm.rows (g.r0, g.r1) (by rw [← hd']; exact List.mem_map.2 ⟨g, hg, rfl⟩)
    exact ⟨Nat.le_trans this.1 hm, Nat.le_trans this.2 hm⟩
  · exact row_of_block (n := 7) (enc := Det.cells) (fun _ => rfl) _ (h.get own_d) (Nat.le_trans sm.dets hm)
  · exact row_of_block (n := 11) (enc := Rl.cells) (fun _ => rfl) _ (h.get own_r) (Nat.le_trans sm.rails hm)
  · exact row_of_block (n := 2) (enc := Bs.cells) (fun _ => rfl) _ (h.get own_s) (Nat.le_trans sm.buses hm)
/-! ### a table's cells, with a list moved -/
structure Eights (T : Tab) : Prop where
  p : T.phases.length = 8
  c : T.conflict.length = 8
  f : T.flash.length = 8
theorem Eights.tab {T : Tab} (k : Eights T) (h : Hd) (w : World) : CellsOk T h (T.cells h).toArray := by
  have h0 : IsTab w ⟨⟨none, 0⟩, ⟨none, 0⟩, ⟨none, 0⟩, ⟨none, 0⟩⟩ { T with groups := [], dets := [], rails := [], buses := [] } :=
    ⟨k.p, k.c, k.f, ⟨[], rfl, RowOf.nil w, fun g hg => by simp at hg⟩, RowOf.nil w, RowOf.nil w, RowOf.nil w⟩
  have := cells_ok h0
  obtain ⟨p0, p1, p2, p3, p4, p5, p6, p7, hp⟩ := eight k.p
  obtain ⟨c0, c1, c2, c3, c4, c5, c6, c7, hc⟩ := eight k.c
  obtain ⟨f0, f1, f2, f3, f4, f5, f6, f7, hf⟩ := eight k.f
  clear k
  obtain ⟨phases, groups, conflict, dets, rails, buses, extend, budget, start, revert, least, flash, window, share⟩ := T
  simp only at hp hc hf
  subst hp hc hf
  clear this h0
  constructor
  all_goals try rfl
  case one => simp [Tab.cells, Ph.cells, Value.oneCell']
  intro i p hp
  match i, hp with
  | 0, hp | 1, hp | 2, hp | 3, hp | 4, hp | 5, hp | 6, hp | 7, hp =>
    obtain rfl := Option.some.inj hp
    rfl
  | i + 8, hp => cases hp
theorem set_g {T : Tab} (k : Eights T) (h : Hd) (s : Sl) : (T.cells h).set 104 (s.val T.groups.length) = T.cells { h with g := s } := by
  obtain ⟨p0, p1, p2, p3, p4, p5, p6, p7, hp⟩ := eight k.p
  obtain ⟨phases, groups, conflict, dets, rails, buses, extend, budget, start, revert, least, flash, window, share⟩ := T
  simp only at hp
  subst hp
  rfl
theorem set_d {T : Tab} (k : Eights T) (h : Hd) (s : Sl) : (T.cells h).set 113 (s.val T.dets.length) = T.cells { h with d := s } := by
  obtain ⟨p0, p1, p2, p3, p4, p5, p6, p7, hp⟩ := eight k.p
  obtain ⟨c0, c1, c2, c3, c4, c5, c6, c7, hc⟩ := eight k.c
  obtain ⟨phases, groups, conflict, dets, rails, buses, extend, budget, start, revert, least, flash, window, share⟩ := T
  simp only at hp hc
  subst hp hc
  rfl
theorem set_r {T : Tab} (k : Eights T) (h : Hd) (s : Sl) : (T.cells h).set 114 (s.val T.rails.length) = T.cells { h with r := s } := by
  obtain ⟨p0, p1, p2, p3, p4, p5, p6, p7, hp⟩ := eight k.p
  obtain ⟨c0, c1, c2, c3, c4, c5, c6, c7, hc⟩ := eight k.c
  obtain ⟨phases, groups, conflict, dets, rails, buses, extend, budget, start, revert, least, flash, window, share⟩ := T
  simp only at hp hc
  subst hp hc
  rfl
theorem set_b {T : Tab} (k : Eights T) (h : Hd) (s : Sl) : (T.cells h).set 115 (s.val T.buses.length) = T.cells { h with b := s } := by
  obtain ⟨p0, p1, p2, p3, p4, p5, p6, p7, hp⟩ := eight k.p
  obtain ⟨c0, c1, c2, c3, c4, c5, c6, c7, hc⟩ := eight k.c
  obtain ⟨phases, groups, conflict, dets, rails, buses, extend, budget, start, revert, least, flash, window, share⟩ := T
  simp only at hp hc
  subst hp hc
  rfl
/-- The zero table. -/
def zPh : Ph := ⟨false, 0, 0, 0, 0, 0, 0, 0, 0, 0, 0, false, false⟩
def zTab : Tab := ⟨List.replicate 8 zPh, [], List.replicate 8 0, [], [], [], 0, 0, 0, 0, 0, List.replicate 8 0, 0, 0⟩
def zHd : Hd := ⟨⟨none, 0⟩, ⟨none, 0⟩, ⟨none, 0⟩, ⟨none, 0⟩⟩
theorem info31 : (Try.prog.info? 32).map (fun i => (i.zero, i.size)) = some (some (.agg (zTab.cells zHd).toArray), 131) := by kernel_rfl
theorem z_is (w : World) : IsTab w zHd zTab := ⟨rfl, rfl, rfl, ⟨[], rfl, RowOf.nil w, fun g hg => by simp at hg⟩, RowOf.nil w, RowOf.nil w, RowOf.nil w⟩
end Clone
namespace Clone
open Go.ChangeShapes Go.WideShapes Go.ChangeAt Go.RowKit
open Tab Copy Owned
open May (chain infoP infoG infoD infoR infoB infoT take_succ')
/-- The groups' block while it is being filled. -/
def mix (ns : List NG) (gs : List Gr) (k : Nat) : List Gr := ns.map NG.gr ++ gs.drop k
theorem mix_at {ns : List NG} {gs : List Gr} {k : Nat} {v : Gr} (hn : ns.length = k) (hv : gs[k]? = some v) : (mix ns gs k)[k]? = some v := by
  unfold mix
  rw [List.getElem?_append_right (by rw [List.length_map]; omega), List.length_map, hn, Nat.sub_self, List.getElem?_drop, Nat.add_zero, hv]
theorem mix_next {ns : List NG} {gs : List Gr} {k : Nat} {v : Gr} (n : NG) (hn : ns.length = k) (hv : gs[k]? = some v) :
    ((mix ns gs k).flatMap Gr.cells).take (k * 2) ++ n.gr.cells ++ ((mix ns gs k).flatMap Gr.cells).drop (k * 2 + 2) = (mix (ns ++ [n]) gs (k + 1)).flatMap Gr.cells := by
  have hk : k < gs.length := (List.getElem?_eq_some_iff.1 hv).1
  have hl : ((ns.map NG.gr).flatMap Gr.cells).length = k * 2 := by rw [flat_len (n := 2) (enc := Gr.cells) (fun _ => rfl), List.length_map, hn]
  have hd : gs.drop k = v :: gs.drop (k + 1) := by
    rw [List.drop_eq_getElem_cons hk]; congr 1
    exact (List.getElem?_eq_some_iff.1 hv).2
  unfold mix
  rw [hd, List.flatMap_append, List.flatMap_cons, List.take_left' hl, List.map_append, List.flatMap_append, List.flatMap_append]
  rw [show k * 2 + 2 = ((ns.map NG.gr).flatMap Gr.cells).length + v.cells.length by rw [hl]; rfl, ← List.append_assoc, List.drop_left' (by rw [List.length_append])]
  simp
def LL (T : Tab) (h1 : Hd) (N G : Nat) (zs : List Value) (ns : List NG) (gs : List Gr) (k : Nat) : List Blk :=
  ⟨G, (mix ns gs k).flatMap Gr.cells, 36⟩ :: ⟨N, T.cells h1, 32⟩ :: ⟨N + 1, zs, 32⟩ :: ns.flatMap NG.blks
theorem perm_next {T : Tab} {h1 : Hd} {N G : Nat} {zs : List Value} {ns : List NG} {gs : List Gr} {k : Nat} {cs : List Value} (n : NG) (e : cs = (mix (ns ++ [n]) gs (k + 1)).flatMap Gr.cells) :
    (LL T h1 N G zs (ns ++ [n]) gs (k + 1)).Perm (⟨G, cs, 36⟩ :: ⟨n.b1, n.r1.flatMap (fun n => [I n]), 3⟩ :: ⟨n.b0, n.r0.flatMap (fun n => [I n]), 3⟩ :: ⟨N, T.cells h1, 32⟩ :: ⟨N + 1, zs, 32⟩ :: ns.flatMap NG.blks) := by
  subst e
  unfold LL
  rw [List.flatMap_append, show List.flatMap NG.blks [n] = [⟨n.b0, n.r0.flatMap (fun n => [I n]), 3⟩, ⟨n.b1, n.r1.flatMap (fun n => [I n]), 3⟩] from rfl]
  refine List.Perm.cons _ ?_
  generalize (⟨n.b0, _, _⟩ : Blk) = x0
  generalize (⟨n.b1, _, _⟩ : Blk) = x1
  generalize (⟨N, _, _⟩ : Blk) = y0
  generalize (⟨N + 1, _, _⟩ : Blk) = y1
  generalize ns.flatMap NG.blks = L
  have a1 : (y0 :: y1 :: (L ++ [x0, x1])).Perm ([x0, x1] ++ (y0 :: y1 :: L)) := (List.perm_append_comm (l₁ := y0 :: y1 :: L) (l₂ := [x0, x1]))
  exact a1.trans (List.Perm.swap _ _ _)
/-- The phases of the region that fills one group. -/
def D5 (w : World) (B M : Nat) (L0 L1 L2 L3 : List Blk) (q : Nat) (w' : World) : Prop :=
  Below B w w' ∧ match q with
    | 0 => Owned.Own B w' L0 ∧ w'.heap.size = M + 1
    | 1 => Owned.Own B w' L1 ∧ w'.heap.size = M + 1 + 1
    | 2 => Owned.Own B w' L2 ∧ w'.heap.size = M + 1 + 1 + 1
    | _ => Owned.Own B w' L3
theorem D5.get {w w' : World} {B M q : Nat} {L0 L1 L2 L3 : List Blk} {x : Blk} (h : D5 w B M L0 L1 L2 L3 q w') (h0 : x ∈ L0) (h1 : x ∈ L1) (h2 : x ∈ L2) (h3 : x ∈ L3) : w'.heap[x.at_]? = some (.cells x.cells.toArray x.type (0, 0)) := by
  match q, h with
  | 0, ⟨_, h, _⟩ => exact h.get h0
  | 1, ⟨_, h, _⟩ => exact h.get h1
  | 2, ⟨_, h, _⟩ => exact h.get h2
  | _ + 3, ⟨_, h⟩ => exact h.get h3
theorem fresh_link {w w' : World} {sz : Nat} {L : List Blk} {a : Option Addr} {cap : Nat} {l : List Int} (hb : Below w.heap.size w w') (ho : Owned.Own w.heap.size w' L) (hs : w'.heap.size = sz) (hr : IntRow w ⟨a, cap⟩ l) (hl : l.length ≤ 1000) :
    Calls Try.prog 19 #[.slice a l.length cap] w' fun e w'' => e = .returned (.slice (some ⟨sz, 0, none⟩) l.length l.length) ∧ Below w.heap.size w w'' ∧ Owned.Own w.heap.size w'' (⟨sz, l.flatMap (fun n => [I n]), 3⟩ :: L) ∧ w''.heap.size = sz + 1 := by
  subst hs
  refine (freshI_any a cap l w' (hr.below hb) hl).mono ?_
  rintro e w'' ⟨rfl, hg, hb2, hz⟩
  exact ⟨rfl, hb.trans (hb2.mono hb.size), ho.add hb2 hg (Nat.le_refl _) hb.size, hz⟩
theorem mix_len {ns : List NG} {gs : List Gr} {k : Nat} (hn : ns.length = k) (hk : k ≤ gs.length) : ((mix ns gs k).flatMap Gr.cells).length = gs.length * 2 := by
  rw [flat_len (n := 2) (enc := Gr.cells) (fun _ => rfl)]
  unfold mix
  rw [List.length_append, List.length_map, List.length_drop]
  omega
theorem store_link {w w' : World} {L : List Blk} {G k : Nat} {ns : List NG} {gs : List Gr} {v : Gr} (hb : Below w.heap.size w w') (ho : Owned.Own w.heap.size w' L) (hx : L[3]? = some ⟨G, (mix ns gs k).flatMap Gr.cells, 36⟩) (hn : ns.length = k) (hv : gs[k]? = some v) (n : NG) :
    ∃ w'', (Instr.storeAt 36 (.pointer (some ⟨G, k * 2, none⟩)) (.agg n.gr.cells.toArray)).run Try.prog w' = .ok () w'' ∧ Below w.heap.size w w'' ∧ Owned.Own w.heap.size w'' (L.set 3 ⟨G, (mix (ns ++ [n]) gs (k + 1)).flatMap Gr.cells, 36⟩) := by
  have hk : k < gs.length := (List.getElem?_eq_some_iff.1 hv).1
  have h1 := Row.run_storeAt_at (P := Try.prog) w' G (k * 2) 36 36 _ n.gr.cells.toArray (ho.get (List.mem_of_getElem? hx)) infoG (by rw [List.size_toArray]; show k * 2 + 2 ≤ ((mix ns gs k).flatMap Gr.cells).length; rw [mix_len hn (by omega)]; omega) (Gr.one _)
  have h2 := mix_next n hn hv
  rw [show (k * 2 + n.gr.cells.toArray.size) = k * 2 + 2 from rfl] at h1
  dsimp only at h1
  rw [h2] at h1
  exact ⟨_, h1, below_setRow hb (ho.base (List.mem_of_getElem? hx)) _, ho.row_at hx _⟩
theorem clone_any (T : Tab) (h : Hd) (w : World) (kt : IsTab w h T) (sm : Small T) :
    Calls Try.prog 5 #[.agg (T.cells h).toArray] w fun e w' => ∃ (ns : List NG) (G D R S : Nat), e = .returned (.agg (T.cells (hd T G D R S)).toArray) ∧ ns.map (fun g => (g.r0, g.r1)) = T.groups ∧ Owned.Own w.heap.size w' (own T ns G D R S) ∧ Below w.heap.size w w' := by
  have K8 := Lib.hid (Eights.mk kt.ph kt.cf kt.fl)
  have hz := (zero_of_info info31).1
  have hzs : (zTab.cells zHd).toArray.size = 131 := (cells_ok (z_is w)).size
  have HZ1 := Lib.hid hzs
  obtain ⟨gs, hgd, hgr⟩ := kt.groups
  have Hgd := Lib.hid hgd
  have hgl : gs.length = T.groups.length := by rw [← hgd, List.length_map]
  have Hgl := Lib.hid hgl
  have Kg := hgr.1.len
  have C := Lib.hid (cells_ok kt)
  have hcz := C.out.size
  unfold maxLen at Kg
  have SM := Lib.hid sm
  have hlg : gs.length ≤ 1000 := by rw [hgl]; exact sm.groups
  have Hkt := Lib.hid kt
  have Hgr := Lib.hid hgr
  clear hgr sm kt hgd hzs hgl
  generalize hzz : (zTab.cells zHd).toArray = Z at hz HZ1
  go_enter Try.func5, Try.ntmps5
  go_upto_region 1 with fail
  have b0 : Below w.heap.size w ((w.alloc (.cells (T.cells h).toArray 32)).alloc (.cells Z 32)) := ((Below.refl _ _).alloc (Nat.le_refl _) _).alloc (by simp) _
  have o0 : Owned.Own w.heap.size ((w.alloc (.cells (T.cells h).toArray 32)).alloc (.cells Z 32)) [⟨w.heap.size, T.cells h, 32⟩, ⟨w.heap.size + 1, Z.toList, 32⟩] :=
    ⟨by simp, fun x hx => by
      simp only [List.mem_cons, List.not_mem_nil, or_false] at hx
      rcases hx with rfl | rfl
      · exact ⟨Nat.le_refl _, heap_alloc2_old w _ _⟩
      · exact ⟨Nat.le_succ _, heap_alloc2_new w _ _⟩⟩
  have O0 := Lib.hid o0
  have B0 := Lib.hid b0
  clear o0 b0
  generalize (w.alloc (.cells (T.cells h).toArray 32)).alloc (.cells Z 32) = w1 at O0 B0 ⊢
  generalize (T.cells h).toArray = cs0 at C hcz ⊢
  clear hz hcz
  have c104 : w1.cell? ⟨w.heap.size, 104, none⟩ = some (.slice h.g.a gs.length h.g.cap) := by
    have e1 := (K8.out.tab h w).g
    rw [List.getElem?_toArray] at e1
    rw [O0.out.cell (x := ⟨w.heap.size, T.cells h, 32⟩) (List.mem_cons_self ..), Hgl.out]
    exact e1
  go_wp2_with fail
  refine (freshG_any h.g.a h.g.cap gs _ (Hgr.out.1.below B0.out) hlg).mono ?_
  rintro e w2 ⟨rfl, hg, hb, hsz⟩
  have O1 := Lib.hid (O0.out.add hb hg (Nat.le_refl _) B0.out.size)
  have B1 := Lib.hid (B0.out.trans (hb.mono B0.out.size))
  have c2 : w2.cell? ⟨w.heap.size, 104, none⟩ = some (.slice h.g.a gs.length h.g.cap) := (hb.cell (World.block_lt_of_cell? _ _ c104)).trans c104
  have f2 : w2.frozen? ⟨w.heap.size, 104, none⟩ = false := O1.out.frozen (x := ⟨w.heap.size, T.cells h, 32⟩) (List.mem_cons_of_mem _ (List.mem_cons_self ..)) 104
  clear hg hb hsz c104 O0
  generalize hG : w1.heap.size = G at O1 ⊢
  have HG := Lib.hid hG
  clear hG
  go_wp2_with fail
  have hset := set_g K8.out h (at0 G gs.length)
  rw [← Hgl.out] at hset
  have O3 := O1.out.cell_at (i := 1) (x := ⟨w.heap.size, T.cells h, 32⟩) rfl 104 (.slice (some ⟨G, 0, none⟩) gs.length gs.length)
  have B3 := Lib.hid (below_write B1.out (Nat.le_refl _) (i := 104) (.slice (some ⟨G, 0, none⟩) gs.length gs.length))
  dsimp only [List.set_cons_succ, List.set_cons_zero] at O3
  rw [hset] at O3
  have O3 : Hid (Owned.Own w.heap.size _ (LL T { h with g := at0 G gs.length } w.heap.size G Z.toList [] gs 0)) := O3
  generalize World.setCell w2 _ _ = w3 at O3 B3 ⊢
  clear hset c2 f2 O1 B1
  have hc1 := (K8.out.tab { h with g := at0 G gs.length } w)
  have H104 : Hid ((T.cells { h with g := at0 G gs.length })[104]? = some (.slice (some ⟨G, 0, none⟩) gs.length gs.length)) := by have := hc1.g; rw [List.getElem?_toArray] at this; rw [this]; show some (Value.slice (some ⟨G, 0, none⟩) T.groups.length gs.length) = _; rw [← Hgl.out]
  have H113 : Hid ((T.cells { h with g := at0 G gs.length })[113]? = some (h.d.val T.dets.length)) := by have := hc1.d; rwa [List.getElem?_toArray] at this
  clear hc1
  generalize hh1 : ({ h with g := at0 G gs.length } : Hd) = h1 at O3 H104 H113
  have Hh1 := Lib.hid hh1
  clear hh1
  go_loopw [12] (fun i wr => ∃ (k : Nat) (ns : List NG), k ≤ gs.length ∧ i = .int .i64 k ∧ ns.length = k ∧ ns.map (fun g => (g.r0, g.r1)) = (gs.take k).map Gr.data ∧ Owned.Own w.heap.size wr (LL T h1 w.heap.size G Z.toList ns gs k) ∧ Below w.heap.size w wr) (fun i _ => gs.length - (intOf i).toNat)
  case atStart => exact ⟨0, [], Nat.zero_le _, rfl, rfl, rfl, O3.out, B3.out⟩
  case round =>
    clear O3 B3
    obtain ⟨k, ns, hk, rfl, hnl, hnd, ho, hb⟩ := hrel
    have O3 := Lib.hid ho
    have B3 := Lib.hid hb
    have ND := Lib.hid hnd
    have NL := Lib.hid hnl
    clear ho hb hnd hnl
    by_cases hlt : k < gs.length
    · have hv := List.getElem?_eq_getElem hlt
      generalize gs[k] = v at hv
      have HV := Lib.hid hv
      have hok := Hgr.out.2 v (List.mem_of_getElem? hv)
      have hsm := SM.out.rows v.data (by rw [← Hgd.out]; exact List.mem_map.2 ⟨v, List.mem_of_getElem? hv, rfl⟩)
      have HC : Hid (Lies wr ⟨G, k * 2, none⟩ v.cells) := fun j u hu => by
        rw [Addr.add_mid, cell_of_row _ _ _ _ _ _ (O3.out.get (List.mem_cons_self ..)), List.getElem?_toArray]
        exact flat_at (n := 2) (enc := Gr.cells) (fun _ => rfl) _ k v j u (mix_at NL.out hv) hu
      obtain ⟨l0, l1, ⟨a0, cap0⟩, ⟨a1, cap1⟩⟩ := v
      have H0 := Lib.hid hok.1
      have H1 := Lib.hid hok.2
      have S0 := Lib.hid hsm.1
      have S1 := Lib.hid hsm.2
      clear hv hok hsm
      go_wp2_with (first | (refine Row.wpList_load_lies rfl 36 _ rfl ⟨G, k * 2, none⟩ rfl (Gr.mk l0 l1 ⟨a0, cap0⟩ ⟨a1, cap1⟩).cells _ HC.out Try.underlying36 rfl infoG ?_) | (refine Row.wpList_store_new rfl 36 _ _ rfl _ _ (Gr.mk l0 l1 ⟨a0, cap0⟩ ⟨a1, cap1⟩).cells.toArray rfl rfl rfl infoG rfl (Gr.one _) ?_))
      have hbw : Below wr.heap.size wr (wr.alloc (.cells (Gr.mk l0 l1 ⟨a0, cap0⟩ ⟨a1, cap1⟩).cells.toArray 36)) := (Below.refl _ _).alloc (Nat.le_refl _) _
      have B4 := Lib.hid (B3.out.trans (hbw.mono B3.out.size))
      have O4 := Lib.hid (O3.out.add hbw (heap_alloc_new wr _) (Nat.le_refl _) B3.out.size)
      have HZ4 : Hid ((wr.alloc (.cells (Gr.mk l0 l1 ⟨a0, cap0⟩ ⟨a1, cap1⟩).cells.toArray 36)).heap.size = wr.heap.size + 1) := by show _ = _; simp
      clear hbw
      generalize wr.alloc (.cells (Gr.mk l0 l1 ⟨a0, cap0⟩ ⟨a1, cap1⟩).cells.toArray 36) = w4 at B4 O4 HZ4 ⊢
      generalize wr.heap.size = M at O4 HZ4 ⊢
      clear O3 B3 HC
      have HB5 : Hid (D5 w w.heap.size M (⟨M, (Gr.mk l0 l1 ⟨a0, cap0⟩ ⟨a1, cap1⟩).cells, 36⟩ :: LL T h1 w.heap.size G Z.toList ns gs k) (⟨M + 1, l0.flatMap (fun n => [I n]), 3⟩ :: ⟨M, (Gr.mk l0 l1 ⟨a0, cap0⟩ ⟨a1, cap1⟩).cells, 36⟩ :: LL T h1 w.heap.size G Z.toList ns gs k) (⟨M + 1 + 1, l1.flatMap (fun n => [I n]), 3⟩ :: ⟨M + 1, l0.flatMap (fun n => [I n]), 3⟩ :: ⟨M, (Gr.mk l0 l1 ⟨a0, cap0⟩ ⟨a1, cap1⟩).cells, 36⟩ :: LL T h1 w.heap.size G Z.toList ns gs k) (⟨M + 1 + 1, l1.flatMap (fun n => [I n]), 3⟩ :: ⟨M + 1, l0.flatMap (fun n => [I n]), 3⟩ :: ⟨M, (Gr.mk l0 l1 ⟨a0, cap0⟩ ⟨a1, cap1⟩).cells, 36⟩ :: ⟨G, (mix (ns ++ [⟨l0, l1, M + 1, M + 1 + 1⟩]) gs (k + 1)).flatMap Gr.cells, 36⟩ :: ⟨w.heap.size, T.cells h1, 32⟩ :: ⟨w.heap.size + 1, Z.toList, 32⟩ :: ns.flatMap NG.blks) 0 w4.drew) := ⟨B4.out.drew, O4.out.same rfl, HZ4.out⟩
      generalize hD : D5 w w.heap.size M (⟨M, (Gr.mk l0 l1 ⟨a0, cap0⟩ ⟨a1, cap1⟩).cells, 36⟩ :: LL T h1 w.heap.size G Z.toList ns gs k) (⟨M + 1, l0.flatMap (fun n => [I n]), 3⟩ :: ⟨M, (Gr.mk l0 l1 ⟨a0, cap0⟩ ⟨a1, cap1⟩).cells, 36⟩ :: LL T h1 w.heap.size G Z.toList ns gs k) (⟨M + 1 + 1, l1.flatMap (fun n => [I n]), 3⟩ :: ⟨M + 1, l0.flatMap (fun n => [I n]), 3⟩ :: ⟨M, (Gr.mk l0 l1 ⟨a0, cap0⟩ ⟨a1, cap1⟩).cells, 36⟩ :: LL T h1 w.heap.size G Z.toList ns gs k) (⟨M + 1 + 1, l1.flatMap (fun n => [I n]), 3⟩ :: ⟨M + 1, l0.flatMap (fun n => [I n]), 3⟩ :: ⟨M, (Gr.mk l0 l1 ⟨a0, cap0⟩ ⟨a1, cap1⟩).cells, 36⟩ :: ⟨G, (mix (ns ++ [⟨l0, l1, M + 1, M + 1 + 1⟩]) gs (k + 1)).flatMap Gr.cells, 36⟩ :: ⟨w.heap.size, T.cells h1, 32⟩ :: ⟨w.heap.size + 1, Z.toList, 32⟩ :: ns.flatMap NG.blks) = D at HB5
      have HD := Lib.hid hD
      have HM : Hid (∀ p : Ph.S D, p.world.heap[M]? = some (.cells (Gr.mk l0 l1 ⟨a0, cap0⟩ ⟨a1, cap1⟩).cells.toArray 36 (0, 0))) := by
        intro p
        have hp := Eq.mpr (congrFun (congrFun hD p.ph) p.world) p.is
        exact D5.get (x := ⟨M, (Gr.mk l0 l1 ⟨a0, cap0⟩ ⟨a1, cap1⟩).cells, 36⟩) hp (List.mem_cons_self ..) (List.mem_cons_of_mem _ (List.mem_cons_self ..)) (List.mem_cons_of_mem _ (List.mem_cons_of_mem _ (List.mem_cons_self ..))) (List.mem_cons_of_mem _ (List.mem_cons_of_mem _ (List.mem_cons_self ..)))
      have hn104 : ∀ p : Ph.S D, p.world.cell? ⟨w.heap.size, 104, none⟩ = some (.slice (some ⟨G, 0, none⟩) gs.length gs.length) := by
        intro p
        have hp := Eq.mpr (congrFun (congrFun hD p.ph) p.world) p.is
        have h2 : (⟨w.heap.size, T.cells h1, 32⟩ : Blk) ∈ LL T h1 w.heap.size G Z.toList ns gs k := List.mem_cons_of_mem _ (List.mem_cons_self ..)
        have h3 := D5.get (x := ⟨w.heap.size, T.cells h1, 32⟩) hp (List.mem_cons_of_mem _ h2) (List.mem_cons_of_mem _ (List.mem_cons_of_mem _ h2)) (List.mem_cons_of_mem _ (List.mem_cons_of_mem _ (List.mem_cons_of_mem _ h2))) (List.mem_cons_of_mem _ (List.mem_cons_of_mem _ (List.mem_cons_of_mem _ (List.mem_cons_of_mem _ (List.mem_cons_self ..)))))
        rw [cell_of_row _ _ _ _ _ _ h3, List.getElem?_toArray]
        exact H104.out
      have hm0 : ∀ p : Ph.S D, p.world.cell? ⟨M, 0, none⟩ = some (.slice a0 l0.length cap0) := fun p => by rw [cell_of_row _ _ _ _ _ _ (HM.out p)]; rfl
      have hm1 : ∀ p : Ph.S D, p.world.cell? ⟨M, 1, none⟩ = some (.slice a1 l1.length cap1) := fun p => by rw [cell_of_row _ _ _ _ _ _ (HM.out p)]; rfl
      have hne : Nonempty (Ph.S D) := ⟨⟨0, _, HB5.out⟩⟩
      clear hD
      refine Ph.wp_region_ph D [5, 8, 11] (by kernel_rfl) (by kernel_rfl) HB5.out ?_
      iterate 5
        (refine Ph.wpPh_calm rfl (fun K hK => ?_)
         go_simp
         refine hK _ ?_
         clear hK K)
      refine Ph.wpPh_link (p := 0) rfl (fun K hK => ?_)
      go_simp
      refine ⟨_, fun w' hd => (by rw [← HD.out] at hd ⊢; exact fresh_link hd.1 hd.2.1 hd.2.2 H0.out S0.out), hK _ ?_⟩
      clear hK K
      iterate 2
        (refine Ph.wpPh_calm rfl (fun K hK => ?_)
         go_simp
         refine hK _ ?_
         clear hK K)
      refine Ph.wpPh_link (p := 1) rfl (fun K hK => ?_)
      go_simp
      refine ⟨_, fun w' hd => (by rw [← HD.out] at hd ⊢; exact fresh_link hd.1 hd.2.1 hd.2.2 H1.out S1.out), hK _ ?_⟩
      clear hK K
      iterate 2
        (refine Ph.wpPh_calm rfl (fun K hK => ?_)
         go_simp
         refine hK _ ?_
         clear hK K)
      refine Row.wpPh_store (p := 2) rfl rfl 36 _ _ rfl (.pointer (some ⟨G, k * 2, none⟩)) (.agg (NG.mk l0 l1 (M + 1) (M + 1 + 1)).gr.cells.toArray) rfl rfl (fun w' hd => ?_) ?_
      · rw [← HD.out] at hd ⊢
        exact store_link hd.1 hd.2.1 rfl NL.out HV.out (NG.mk l0 l1 (M + 1) (M + 1 + 1))
      refine Ph.wpPh_nil ?_
      intro w5 hd5
      have B5 : Hid (Below w.heap.size w w5 ∧ Owned.Own w.heap.size w5 (LL T h1 w.heap.size G Z.toList (ns ++ [NG.mk l0 l1 (M + 1) (M + 1 + 1)]) gs (k + 1))) := by
        rw [← HD.out] at hd5
        refine ⟨hd5.1, ?_⟩
        have ho : Owned.Own w.heap.size w5 _ := hd5.2
        refine (ho.perm (M := ⟨M, (Gr.mk l0 l1 ⟨a0, cap0⟩ ⟨a1, cap1⟩).cells, 36⟩ :: _) (List.Perm.trans ?_ (List.perm_middle (l₁ := [_, _]) (l₂ := _)).symm)).tail
        exact List.Perm.cons _ ((perm_next (NG.mk l0 l1 (M + 1) (M + 1 + 1)) rfl).trans (List.perm_middle (l₁ := [_, _])).symm)
      clear hd5 hne hm0 hm1 hn104 HM HD HB5
      clear D
      go_wp2
      go_roundw
      case rel =>
        refine ⟨k + 1, ns ++ [NG.mk l0 l1 (M + 1) (M + 1 + 1)], by omega, by go_num, by rw [List.length_append, NL.out]; rfl, ?_, B5.out.2, B5.out.1⟩
        rw [List.map_append, ND.out, take_succ' gs k _ HV.out, List.map_append]
        rfl
      case measure => simp [intOf]; omega
    · have hkn : k = gs.length := by omega
      have hmix : mix ns gs k = ns.map NG.gr := by unfold mix; rw [List.drop_of_length_le (by omega), List.append_nil]
      have O5 : Hid (Owned.Own w.heap.size wr (⟨G, (ns.map NG.gr).flatMap Gr.cells, 36⟩ :: ⟨w.heap.size, T.cells h1, 32⟩ :: ⟨w.heap.size + 1, Z.toList, 32⟩ :: ns.flatMap NG.blks)) := by
        have := O3.out
        unfold LL at this
        rwa [hmix] at this
      have ND2 : Hid (ns.map (fun g => (g.r0, g.r1)) = T.groups) := by
        have := ND.out
        rwa [List.take_of_length_le (by omega), Hgd.out] at this
      clear hkn hmix O3 ND H104
      have c113 : wr.cell? ⟨w.heap.size, 113, none⟩ = some (.slice h.d.a T.dets.length h.d.cap) := by rw [O5.out.cell (x := ⟨w.heap.size, T.cells h1, 32⟩) (List.mem_cons_of_mem _ (List.mem_cons_self ..))]; exact H113.out
      go_wp2_with fail
      refine (freshD_any h.d.a h.d.cap T.dets _ (Hkt.out.dets.below B3.out) SM.out.dets).mono ?_
      rintro e v1 ⟨rfl, hg, hb, hsz⟩
      have P1 := Lib.hid (O5.out.add hb hg (Nat.le_refl _) B3.out.size)
      have C1 := Lib.hid (B3.out.trans (hb.mono B3.out.size))
      have d113 : v1.cell? ⟨w.heap.size, 113, none⟩ = some (.slice h.d.a T.dets.length h.d.cap) := (hb.cell (World.block_lt_of_cell? _ _ c113)).trans c113
      have f113 : v1.frozen? ⟨w.heap.size, 113, none⟩ = false := P1.out.frozen (x := ⟨w.heap.size, T.cells h1, 32⟩) (by simp only [List.mem_cons, true_or, or_true]) 113
      clear hg hb hsz c113 O5
      generalize hL : (World.heap wr).size = D at P1 ⊢
      clear hL
      go_upto_region 8 with fail
      have hset := set_d K8.out h1 (at0 D T.dets.length)
      have q1 := P1.out.cell_at (i := 2) (x := ⟨w.heap.size, T.cells h1, 32⟩) rfl 113 (.slice (some ⟨D, 0, none⟩) T.dets.length T.dets.length)
      have E1 := Lib.hid (below_write C1.out (Nat.le_refl _) (i := 113) (.slice (some ⟨D, 0, none⟩) T.dets.length T.dets.length))
      dsimp only [List.set_cons_succ, List.set_cons_zero] at q1
      rw [show (T.cells h1).set 113 (Value.slice (some ⟨D, 0, none⟩) T.dets.length T.dets.length) = T.cells (Hd.mk h1.g (at0 D T.dets.length) h1.r h1.b) from hset] at q1
      have Q1 := Lib.hid q1
      clear q1 hset d113 f113 P1 C1
      generalize World.setCell v1 _ _ = x1 at Q1 E1 ⊢
      have c114 : x1.cell? ⟨w.heap.size, 114, none⟩ = some (.slice h.r.a T.rails.length h.r.cap) := by
        have e1 := (K8.out.tab (Hd.mk h1.g (at0 D T.dets.length) h1.r h1.b) w).r
        rw [List.getElem?_toArray] at e1
        rw [Q1.out.cell (x := ⟨w.heap.size, T.cells (Hd.mk h1.g (at0 D T.dets.length) h1.r h1.b), 32⟩) (by simp only [List.mem_cons, true_or, or_true])]
        rw [show (T.cells (Hd.mk h1.g (at0 D T.dets.length) h1.r h1.b))[114]? = _ from e1, ← Hh1.out]
      go_wp2_with fail
      refine (freshR_any h.r.a h.r.cap T.rails _ (Hkt.out.rails.below E1.out) SM.out.rails).mono ?_
      rintro e v2 ⟨rfl, hg, hb, hsz⟩
      have P2 := Lib.hid (Q1.out.add hb hg (Nat.le_refl _) E1.out.size)
      have C2 := Lib.hid (E1.out.trans (hb.mono E1.out.size))
      have d114 : v2.cell? ⟨w.heap.size, 114, none⟩ = some (.slice h.r.a T.rails.length h.r.cap) := (hb.cell (World.block_lt_of_cell? _ _ c114)).trans c114
      have f114 : v2.frozen? ⟨w.heap.size, 114, none⟩ = false := P2.out.frozen (x := ⟨w.heap.size, T.cells (Hd.mk h1.g (at0 D T.dets.length) h1.r h1.b), 32⟩) (by simp only [List.mem_cons, true_or, or_true]) 114
      clear hg hb hsz c114 Q1
      generalize hL : (World.heap x1).size = R at P2 ⊢
      clear hL
      go_upto_region 9 with fail
      have hset := set_r K8.out (Hd.mk h1.g (at0 D T.dets.length) h1.r h1.b) (at0 R T.rails.length)
      have q2 := P2.out.cell_at (i := 3) (x := ⟨w.heap.size, T.cells (Hd.mk h1.g (at0 D T.dets.length) h1.r h1.b), 32⟩) rfl 114 (.slice (some ⟨R, 0, none⟩) T.rails.length T.rails.length)
      have E2 := Lib.hid (below_write C2.out (Nat.le_refl _) (i := 114) (.slice (some ⟨R, 0, none⟩) T.rails.length T.rails.length))
      dsimp only [List.set_cons_succ, List.set_cons_zero] at q2
      rw [show (T.cells (Hd.mk h1.g (at0 D T.dets.length) h1.r h1.b)).set 114 (Value.slice (some ⟨R, 0, none⟩) T.rails.length T.rails.length) = T.cells (Hd.mk h1.g (at0 D T.dets.length) (at0 R T.rails.length) h1.b) from hset] at q2
      have Q2 := Lib.hid q2
      clear q2 hset d114 f114 P2 C2
      generalize World.setCell v2 _ _ = x2 at Q2 E2 ⊢
      have c115 : x2.cell? ⟨w.heap.size, 115, none⟩ = some (.slice h.b.a T.buses.length h.b.cap) := by
        have e1 := (K8.out.tab (Hd.mk h1.g (at0 D T.dets.length) (at0 R T.rails.length) h1.b) w).b
        rw [List.getElem?_toArray] at e1
        rw [Q2.out.cell (x := ⟨w.heap.size, T.cells (Hd.mk h1.g (at0 D T.dets.length) (at0 R T.rails.length) h1.b), 32⟩) (by simp only [List.mem_cons, true_or, or_true])]
        rw [show (T.cells (Hd.mk h1.g (at0 D T.dets.length) (at0 R T.rails.length) h1.b))[115]? = _ from e1, ← Hh1.out]
      go_wp2_with fail
      refine (freshB_any h.b.a h.b.cap T.buses _ (Hkt.out.buses.below E2.out) SM.out.buses).mono ?_
      rintro e v3 ⟨rfl, hg, hb, hsz⟩
      have P3 := Lib.hid (Q2.out.add hb hg (Nat.le_refl _) E2.out.size)
      have C3 := Lib.hid (E2.out.trans (hb.mono E2.out.size))
      have d115 : v3.cell? ⟨w.heap.size, 115, none⟩ = some (.slice h.b.a T.buses.length h.b.cap) := (hb.cell (World.block_lt_of_cell? _ _ c115)).trans c115
      have f115 : v3.frozen? ⟨w.heap.size, 115, none⟩ = false := P3.out.frozen (x := ⟨w.heap.size, T.cells (Hd.mk h1.g (at0 D T.dets.length) (at0 R T.rails.length) h1.b), 32⟩) (by simp only [List.mem_cons, true_or, or_true]) 115
      clear hg hb hsz c115 Q2
      generalize hL : (World.heap x2).size = S at P3 ⊢
      clear hL
      go_upto_region 10 with fail
      have hset := set_b K8.out (Hd.mk h1.g (at0 D T.dets.length) (at0 R T.rails.length) h1.b) (at0 S T.buses.length)
      have q3 := P3.out.cell_at (i := 4) (x := ⟨w.heap.size, T.cells (Hd.mk h1.g (at0 D T.dets.length) (at0 R T.rails.length) h1.b), 32⟩) rfl 115 (.slice (some ⟨S, 0, none⟩) T.buses.length T.buses.length)
      have E3 := Lib.hid (below_write C3.out (Nat.le_refl _) (i := 115) (.slice (some ⟨S, 0, none⟩) T.buses.length T.buses.length))
      dsimp only [List.set_cons_succ, List.set_cons_zero] at q3
      rw [show (T.cells (Hd.mk h1.g (at0 D T.dets.length) (at0 R T.rails.length) h1.b)).set 115 (Value.slice (some ⟨S, 0, none⟩) T.buses.length T.buses.length) = T.cells (Hd.mk h1.g (at0 D T.dets.length) (at0 R T.rails.length) (at0 S T.buses.length)) from hset] at q3
      have Q3 := Lib.hid q3
      clear q3 hset d115 f115 P3 C3
      generalize World.setCell v3 _ _ = x3 at Q3 E3 ⊢
      have c4 := K8.out.tab (Hd.mk h1.g (at0 D T.dets.length) (at0 R T.rails.length) (at0 S T.buses.length)) w
      have HN := Lib.hid (Q3.out.get (x := ⟨w.heap.size, T.cells (Hd.mk h1.g (at0 D T.dets.length) (at0 R T.rails.length) (at0 S T.buses.length)), 32⟩) (by simp only [List.mem_cons, true_or, or_true]))
      have HN1 := Lib.hid (Q3.out.get (x := ⟨w.heap.size + 1, Z.toList, 32⟩) (by simp only [List.mem_cons, true_or, or_true]))
      have SZ := Lib.hid c4.size
      have ON := Lib.hid c4.one
      clear c4
      have QW := Lib.hid (Q3.out.row_at (i := 5) (x := ⟨w.heap.size + 1, Z.toList, 32⟩) rfl (T.cells (Hd.mk h1.g (at0 D T.dets.length) (at0 R T.rails.length) (at0 S T.buses.length))))
      have EW := Lib.hid (below_setRow E3.out (Nat.le_succ w.heap.size) (T.cells (Hd.mk h1.g (at0 D T.dets.length) (at0 R T.rails.length) (at0 S T.buses.length))).toArray)
      have hfin : (hd T G D R S) = (Hd.mk h1.g (at0 D T.dets.length) (at0 R T.rails.length) (at0 S T.buses.length)) := by rw [← Hh1.out]; unfold hd; rw [← Hgl.out]
      have HF := Lib.hid hfin
      clear hfin Q3 E3
      generalize hcs4 : T.cells (Hd.mk h1.g (at0 D T.dets.length) (at0 R T.rails.length) (at0 S T.buses.length)) = cs4 at HN SZ ON QW EW
      have HC4 := Lib.hid hcs4
      clear hcs4
      go_wp2_with (first | (refine wpList_load_row rfl 32 _ rfl w.heap.size rfl _ _ _ _ HN.out Try.underlying32 rfl (by rw [SZ.out]; exact infoT) ?_) | (refine wpList_store_row rfl 32 _ _ rfl (w.heap.size + 1) cs4.toArray rfl rfl 32 _ HN1.out (by rw [SZ.out]; exact infoT) (by rw [SZ.out]; show Z.toList.toArray.size = 131; rw [List.size_toArray, Array.length_toList]; exact HZ1.out) ON.out ?_))
      (try dsimp only at QW)
      (try dsimp only at EW)
      generalize World.setRow x3 _ _ = x4 at QW EW ⊢
      go_wp2_with fail
      (try simp only [Exit.inBlock, Exit.then])
      refine bodyPost_ret (v := .agg cs4.toArray) ?_ rfl ⟨ns, G, D, R, S, by rw [HF.out, HC4.out], ND2.out, ?_, EW.out⟩
      · exact results_cell_row rfl _ _ (w.heap.size + 1) 32 cs4.toArray (0, 0) _ rfl (QW.out.get (x := ⟨w.heap.size + 1, cs4, 32⟩) (by simp only [List.set_cons_succ, List.set_cons_zero, List.mem_cons, true_or, or_true])) Try.underlying32 rfl (by rw [SZ.out]; exact infoT)
      · have hq := QW.out
        try dsimp only [List.set_cons_succ, List.set_cons_zero] at hq
        exact (hq.perm (M := [_, _, _, _, _, _].reverse ++ _) (List.Perm.append_right _ (List.reverse_perm _))).tail.tail
end Clone
end Go.Proofs.Ytambpohphbdhcaa
