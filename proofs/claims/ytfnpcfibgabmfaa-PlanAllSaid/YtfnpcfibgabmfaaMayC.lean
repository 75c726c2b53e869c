/- The contracts of table.mayAll at its five types of element: are there at most so many, and may each be? -/
import Derived.Test.YtfnpcfibgabmfaaRows
import Derived.Test.YtfnpcfibgabmfaaMayB
import Derived.Test.YtfnpcfibgabmfaaRow
import Derived.LoopTactic
namespace Go.Proofs.Ytfnpcfibgabmfaa.May
open Go.ChangeShapes Go.WideShapes Go.ChangeAt Go.RowKit
open Tab
set_option linter.unusedVariables false
set_option linter.unusedSimpArgs false
theorem chain {a b c : World} (h : Below a.heap.size a b) (k : Below b.heap.size b c) : Below a.heap.size a c := h.trans (k.mono h.size)
theorem infoP : (Try.prog.info? 25).map (·.size) = some 13 := by kernel_rfl
theorem infoG : (Try.prog.info? 42).map (·.size) = some 2 := by kernel_rfl
theorem infoD : (Try.prog.info? 44).map (·.size) = some 7 := by kernel_rfl
theorem infoR : (Try.prog.info? 46).map (·.size) = some 11 := by kernel_rfl
theorem infoB : (Try.prog.info? 48).map (·.size) = some 2 := by kernel_rfl
set_option maxHeartbeats 1000000 in
theorem mayAllP_any (m : Int) (a : Option Addr) (cap : Nat) (l : List Ph) (w : World) (h : RowOf 13 Ph.cells w ⟨a, cap⟩ l) :
    Calls Try.prog 47 #[.slice a l.length cap, .int .i64 m, .func (.func 48) #[] #[]] w fun e w' => e = .returned (.bool (decide ((l.length : Int) ≤ m) && l.all Ph.may)) ∧ Below w.heap.size w w' := by
  have h1 := h.len
  unfold maxLen at h1
  have Hr := Lib.hid h
  clear h
  by_cases hm : (l.length : Int) ≤ m
  · have hm' : decide (m < (l.length : Int)) = false := decide_eq_false (by omega)
    have Hm := Lib.hid hm
    go_enter Try.func47, Try.ntmps47
    go_wp2
    go_loopw [15] (fun i wr => ∃ k : Nat, k ≤ l.length ∧ i = .int .i64 k ∧ (l.take k).all Ph.may = true ∧ Below w.heap.size w wr) (fun i _ => l.length - (intOf i).toNat)
    case atStart => exact ⟨0, Nat.zero_le _, rfl, rfl, Below.refl _ _⟩
    case round =>
      obtain ⟨k, hk, rfl, hall, hbel⟩ := hrel
      have Hall := Lib.hid hall
      have Hb := Lib.hid hbel
      clear hall hbel
      by_cases hlt : k < l.length
      · have hv := List.getElem?_eq_getElem hlt
        generalize l[k] = v at hv
        obtain ⟨x, hx, hcell⟩ := (Hr.out.below Hb.out).at hv
        obtain rfl : a = some x := hx
        have HV := Lib.hid hv
        have HC := Lib.hid hcell
        clear hv hcell
        go_wp2_with (first | (refine Row.wpList_load_lies rfl 25 _ rfl (x.add (k * 13)) rfl v.cells _ HC.out Try.underlying25 rfl infoP ?_) | (refine Row.wpList_store_new rfl 25 _ _ rfl _ _ v.cells.toArray rfl rfl rfl infoP rfl v.one ?_) | (refine wpList_load_row rfl 25 _ rfl _ rfl _ _ _ _ (heap_alloc_new _ _) Try.underlying25 rfl infoP ?_))
        refine (mayPhase_any v _).mono ?_
        rintro e w2 ⟨rfl, hb2⟩
        have B2 := Lib.hid (chain Hb.out (chain ((Below.refl _ _).alloc (Nat.le_refl _) _) hb2))
        clear hb2
        generalize hb : Ph.may v = b
        have HB := Lib.hid hb
        clear hb
        cases b
        · go_wp2
          go_ret
          exact ⟨ret_bool (by rw [all_break (f := Ph.may) HV.out HB.out, Bool.and_false]), B2.out⟩
        · go_wp2
          go_roundw
          case rel => exact ⟨k + 1, by omega, by go_num, all_step (f := Ph.may) HV.out Hall.out HB.out, B2.out⟩
          case measure => simp [intOf]; omega
      · go_wp2
        go_ret
        exact ⟨ret_bool (by rw [all_end Hall.out hlt, decide_eq_true (by have := Hm.out; omega)]; rfl), Hb.out⟩
  · have Hm := Lib.hid hm
    go_enter Try.func47, Try.ntmps47
    go_wp2
    go_ret
    exact ⟨ret_bool (by rw [decide_eq_false (by have := Hm.out; omega)]; rfl), Below.refl _ _⟩
set_option maxHeartbeats 1000000 in
theorem mayAllG_any (m : Int) (a : Option Addr) (cap : Nat) (l : List Gr) (w : World) (h : RowOf 2 Gr.cells w ⟨a, cap⟩ l) (h2 : ∀ v ∈ l, v.ok w) :
    Calls Try.prog 49 #[.slice a l.length cap, .int .i64 m, .func (.func 50) #[] #[]] w fun e w' => e = .returned (.bool (decide ((l.length : Int) ≤ m) && l.all (fun v => groupMay v.data))) ∧ Below w.heap.size w w' := by
  have h1 := h.len
  unfold maxLen at h1
  have Hr := Lib.hid h
  clear h
  have H2 := Lib.hid h2
  clear h2
  by_cases hm : (l.length : Int) ≤ m
  · have hm' : decide (m < (l.length : Int)) = false := decide_eq_false (by omega)
    have Hm := Lib.hid hm
    go_enter Try.func49, Try.ntmps49
    go_wp2
    go_loopw [15] (fun i wr => ∃ k : Nat, k ≤ l.length ∧ i = .int .i64 k ∧ (l.take k).all (fun v => groupMay v.data) = true ∧ Below w.heap.size w wr) (fun i _ => l.length - (intOf i).toNat)
    case atStart => exact ⟨0, Nat.zero_le _, rfl, rfl, Below.refl _ _⟩
    case round =>
      obtain ⟨k, hk, rfl, hall, hbel⟩ := hrel
      have Hall := Lib.hid hall
      have Hb := Lib.hid hbel
      clear hall hbel
      by_cases hlt : k < l.length
      · have hv := List.getElem?_eq_getElem hlt
        generalize l[k] = v at hv
        obtain ⟨x, hx, hcell⟩ := (Hr.out.below Hb.out).at hv
        obtain rfl : a = some x := hx
        have HV := Lib.hid hv
        have HC := Lib.hid hcell
        clear hv hcell
        go_wp2_with (first | (refine Row.wpList_load_lies rfl 42 _ rfl (x.add (k * 2)) rfl v.cells _ HC.out Try.underlying42 rfl infoG ?_) | (refine Row.wpList_store_new rfl 42 _ _ rfl _ _ v.cells.toArray rfl rfl rfl infoG rfl v.one ?_) | (refine wpList_load_row rfl 42 _ rfl _ rfl _ _ _ _ (heap_alloc_new _ _) Try.underlying42 rfl infoG ?_))
        refine (mayGroup_any v _ (((H2.out _ (List.mem_of_getElem? HV.out)).below Hb.out).below ((Below.refl _ _).alloc (Nat.le_refl _) _))).mono ?_
        rintro e w2 ⟨rfl, hb2⟩
        have B2 := Lib.hid (chain Hb.out (chain ((Below.refl _ _).alloc (Nat.le_refl _) _) hb2))
        clear hb2
        generalize hb : groupMay v.data = b
        have HB := Lib.hid hb
        clear hb
        cases b
        · go_wp2
          go_ret
          exact ⟨ret_bool (by rw [all_break (f := (fun v => groupMay v.data)) HV.out HB.out, Bool.and_false]), B2.out⟩
        · go_wp2
          go_roundw
          case rel => exact ⟨k + 1, by omega, by go_num, all_step (f := (fun v => groupMay v.data)) HV.out Hall.out HB.out, B2.out⟩
          case measure => simp [intOf]; omega
      · go_wp2
        go_ret
        exact ⟨ret_bool (by rw [all_end Hall.out hlt, decide_eq_true (by have := Hm.out; omega)]; rfl), Hb.out⟩
  · have Hm := Lib.hid hm
    go_enter Try.func49, Try.ntmps49
    go_wp2
    go_ret
    exact ⟨ret_bool (by rw [decide_eq_false (by have := Hm.out; omega)]; rfl), Below.refl _ _⟩
set_option maxHeartbeats 1000000 in
theorem mayAllD_any (m : Int) (a : Option Addr) (cap : Nat) (l : List Det) (w : World) (h : RowOf 7 Det.cells w ⟨a, cap⟩ l) :
    Calls Try.prog 52 #[.slice a l.length cap, .int .i64 m, .func (.func 53) #[] #[]] w fun e w' => e = .returned (.bool (decide ((l.length : Int) ≤ m) && l.all Det.may)) ∧ Below w.heap.size w w' := by
  have h1 := h.len
  unfold maxLen at h1
  have Hr := Lib.hid h
  clear h
  by_cases hm : (l.length : Int) ≤ m
  · have hm' : decide (m < (l.length : Int)) = false := decide_eq_false (by omega)
    have Hm := Lib.hid hm
    go_enter Try.func52, Try.ntmps52
    go_wp2
    go_loopw [15] (fun i wr => ∃ k : Nat, k ≤ l.length ∧ i = .int .i64 k ∧ (l.take k).all Det.may = true ∧ Below w.heap.size w wr) (fun i _ => l.length - (intOf i).toNat)
    case atStart => exact ⟨0, Nat.zero_le _, rfl, rfl, Below.refl _ _⟩
    case round =>
      obtain ⟨k, hk, rfl, hall, hbel⟩ := hrel
      have Hall := Lib.hid hall
      have Hb := Lib.hid hbel
      clear hall hbel
      by_cases hlt : k < l.length
      · have hv := List.getElem?_eq_getElem hlt
        generalize l[k] = v at hv
        obtain ⟨x, hx, hcell⟩ := (Hr.out.below Hb.out).at hv
        obtain rfl : a = some x := hx
        have HV := Lib.hid hv
        have HC := Lib.hid hcell
        clear hv hcell
        go_wp2_with (first | (refine Row.wpList_load_lies rfl 44 _ rfl (x.add (k * 7)) rfl v.cells _ HC.out Try.underlying44 rfl infoD ?_) | (refine Row.wpList_store_new rfl 44 _ _ rfl _ _ v.cells.toArray rfl rfl rfl infoD rfl v.one ?_) | (refine wpList_load_row rfl 44 _ rfl _ rfl _ _ _ _ (heap_alloc_new _ _) Try.underlying44 rfl infoD ?_))
        refine (mayDetector_any v _).mono ?_
        rintro e w2 ⟨rfl, hb2⟩
        have B2 := Lib.hid (chain Hb.out (chain ((Below.refl _ _).alloc (Nat.le_refl _) _) hb2))
        clear hb2
        generalize hb : Det.may v = b
        have HB := Lib.hid hb
        clear hb
        cases b
        · go_wp2
          go_ret
          exact ⟨ret_bool (by rw [all_break (f := Det.may) HV.out HB.out, Bool.and_false]), B2.out⟩
        · go_wp2
          go_roundw
          case rel => exact ⟨k + 1, by omega, by go_num, all_step (f := Det.may) HV.out Hall.out HB.out, B2.out⟩
          case measure => simp [intOf]; omega
      · go_wp2
        go_ret
        exact ⟨ret_bool (by rw [all_end Hall.out hlt, decide_eq_true (by have := Hm.out; omega)]; rfl), Hb.out⟩
  · have Hm := Lib.hid hm
    go_enter Try.func52, Try.ntmps52
    go_wp2
    go_ret
    exact ⟨ret_bool (by rw [decide_eq_false (by have := Hm.out; omega)]; rfl), Below.refl _ _⟩
set_option maxHeartbeats 1000000 in
theorem mayAllR_any (m : Int) (a : Option Addr) (cap : Nat) (l : List Rl) (w : World) (h : RowOf 11 Rl.cells w ⟨a, cap⟩ l) :
    Calls Try.prog 54 #[.slice a l.length cap, .int .i64 m, .func (.func 55) #[] #[]] w fun e w' => e = .returned (.bool (decide ((l.length : Int) ≤ m) && l.all Rl.may)) ∧ Below w.heap.size w w' := by
  have h1 := h.len
  unfold maxLen at h1
  have Hr := Lib.hid h
  clear h
  by_cases hm : (l.length : Int) ≤ m
  · have hm' : decide (m < (l.length : Int)) = false := decide_eq_false (by omega)
    have Hm := Lib.hid hm
    go_enter Try.func54, Try.ntmps54
    go_wp2
    go_loopw [15] (fun i wr => ∃ k : Nat, k ≤ l.length ∧ i = .int .i64 k ∧ (l.take k).all Rl.may = true ∧ Below w.heap.size w wr) (fun i _ => l.length - (intOf i).toNat)
    case atStart => exact ⟨0, Nat.zero_le _, rfl, rfl, Below.refl _ _⟩
    case round =>
      obtain ⟨k, hk, rfl, hall, hbel⟩ := hrel
      have Hall := Lib.hid hall
      have Hb := Lib.hid hbel
      clear hall hbel
      by_cases hlt : k < l.length
      · have hv := List.getElem?_eq_getElem hlt
        generalize l[k] = v at hv
        obtain ⟨x, hx, hcell⟩ := (Hr.out.below Hb.out).at hv
        obtain rfl : a = some x := hx
        have HV := Lib.hid hv
        have HC := Lib.hid hcell
        clear hv hcell
        go_wp2_with (first | (refine Row.wpList_load_lies rfl 46 _ rfl (x.add (k * 11)) rfl v.cells _ HC.out Try.underlying46 rfl infoR ?_) | (refine Row.wpList_store_new rfl 46 _ _ rfl _ _ v.cells.toArray rfl rfl rfl infoR rfl v.one ?_) | (refine wpList_load_row rfl 46 _ rfl _ rfl _ _ _ _ (heap_alloc_new _ _) Try.underlying46 rfl infoR ?_))
        refine (mayRail_any v _).mono ?_
        rintro e w2 ⟨rfl, hb2⟩
        have B2 := Lib.hid (chain Hb.out (chain ((Below.refl _ _).alloc (Nat.le_refl _) _) hb2))
        clear hb2
        generalize hb : Rl.may v = b
        have HB := Lib.hid hb
        clear hb
        cases b
        · go_wp2
          go_ret
          exact ⟨ret_bool (by rw [all_break (f := Rl.may) HV.out HB.out, Bool.and_false]), B2.out⟩
        · go_wp2
          go_roundw
          case rel => exact ⟨k + 1, by omega, by go_num, all_step (f := Rl.may) HV.out Hall.out HB.out, B2.out⟩
          case measure => simp [intOf]; omega
      · go_wp2
        go_ret
        exact ⟨ret_bool (by rw [all_end Hall.out hlt, decide_eq_true (by have := Hm.out; omega)]; rfl), Hb.out⟩
  · have Hm := Lib.hid hm
    go_enter Try.func54, Try.ntmps54
    go_wp2
    go_ret
    exact ⟨ret_bool (by rw [decide_eq_false (by have := Hm.out; omega)]; rfl), Below.refl _ _⟩
set_option maxHeartbeats 1000000 in
theorem mayAllB_any (m : Int) (a : Option Addr) (cap : Nat) (l : List Bs) (w : World) (h : RowOf 2 Bs.cells w ⟨a, cap⟩ l) :
    Calls Try.prog 56 #[.slice a l.length cap, .int .i64 m, .func (.func 57) #[] #[]] w fun e w' => e = .returned (.bool (decide ((l.length : Int) ≤ m) && l.all Bs.may)) ∧ Below w.heap.size w w' := by
  have h1 := h.len
  unfold maxLen at h1
  have Hr := Lib.hid h
  clear h
  by_cases hm : (l.length : Int) ≤ m
  · have hm' : decide (m < (l.length : Int)) = false := decide_eq_false (by omega)
    have Hm := Lib.hid hm
    go_enter Try.func56, Try.ntmps56
    go_wp2
    go_loopw [15] (fun i wr => ∃ k : Nat, k ≤ l.length ∧ i = .int .i64 k ∧ (l.take k).all Bs.may = true ∧ Below w.heap.size w wr) (fun i _ => l.length - (intOf i).toNat)
    case atStart => exact ⟨0, Nat.zero_le _, rfl, rfl, Below.refl _ _⟩
    case round =>
      obtain ⟨k, hk, rfl, hall, hbel⟩ := hrel
      have Hall := Lib.hid hall
      have Hb := Lib.hid hbel
      clear hall hbel
      by_cases hlt : k < l.length
      · have hv := List.getElem?_eq_getElem hlt
        generalize l[k] = v at hv
        obtain ⟨x, hx, hcell⟩ := (Hr.out.below Hb.out).at hv
        obtain rfl : a = some x := hx
        have HV := Lib.hid hv
        have HC := Lib.hid hcell
        clear hv hcell
        go_wp2_with (first | (refine Row.wpList_load_lies rfl 48 _ rfl (x.add (k * 2)) rfl v.cells _ HC.out Try.underlying48 rfl infoB ?_) | (refine Row.wpList_store_new rfl 48 _ _ rfl _ _ v.cells.toArray rfl rfl rfl infoB rfl v.one ?_) | (refine wpList_load_row rfl 48 _ rfl _ rfl _ _ _ _ (heap_alloc_new _ _) Try.underlying48 rfl infoB ?_))
        refine (mayBus_any v _).mono ?_
        rintro e w2 ⟨rfl, hb2⟩
        have B2 := Lib.hid (chain Hb.out (chain ((Below.refl _ _).alloc (Nat.le_refl _) _) hb2))
        clear hb2
        generalize hb : Bs.may v = b
        have HB := Lib.hid hb
        clear hb
        cases b
        · go_wp2
          go_ret
          exact ⟨ret_bool (by rw [all_break (f := Bs.may) HV.out HB.out, Bool.and_false]), B2.out⟩
        · go_wp2
          go_roundw
          case rel => exact ⟨k + 1, by omega, by go_num, all_step (f := Bs.may) HV.out Hall.out HB.out, B2.out⟩
          case measure => simp [intOf]; omega
      · go_wp2
        go_ret
        exact ⟨ret_bool (by rw [all_end Hall.out hlt, decide_eq_true (by have := Hm.out; omega)]; rfl), Hb.out⟩
  · have Hm := Lib.hid hm
    go_enter Try.func56, Try.ntmps56
    go_wp2
    go_ret
    exact ⟨ret_bool (by rw [decide_eq_false (by have := Hm.out; omega)]; rfl), Below.refl _ _⟩
end Go.Proofs.Ytfnpcfibgabmfaa.May
