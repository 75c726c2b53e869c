/- 12 texts in one file, in build order. -/
import Derived.Test.YtpgoafbkjmmedaaGreatRows
import Derived.Test.YtpgoafbkjmmedaaGreatPart03
import Derived.Test.YtpgoafbkjmmedaaGreatPart02
import Derived.LoopTactic
import Derived.WalkKit
import Derived.ProofKit
import Derived.IntWalk
import Derived.Lib.Hide
import Derived.Below
import Derived.BigQuiet
import Derived.Deep.QuietTactic
import Derived.Deep.WholeRow
import Derived.Laws.BitsAllLaws
import Derived.Lib.SlBytesConst
import Derived.OpenShut
import Derived.Deep.Cut
import Derived.Test.YtpgoafbkjmmedaaGreatPart01
import Derived.Deep.RegionHeld3
import Derived.Defers
import Derived.Recover
import Derived.Laws.Pointers
import Derived.Laws.StructEq
import Derived.Orders
set_option linter.unusedVariables false
set_option linter.unusedSimpArgs false
set_option linter.unusedSectionVars false
set_option maxHeartbeats 8000000
set_option maxRecDepth 100000
namespace Go.Proofs.YtpgoafbkjmmedaaGreat
namespace May
open Go.ChangeShapes Go.WideShapes Go.ChangeAt Go.RowKit
open Tab
theorem chain {a b c : World} (h : Below a.heap.size a b) (k : Below b.heap.size b c) : Below a.heap.size a c := h.trans (k.mono h.size)
theorem infoP : (Tryz.prog.info? 23).map (·.size) = some 13 := by kernel_rfl
theorem infoG : (Tryz.prog.info? 55).map (·.size) = some 2 := by kernel_rfl
theorem infoD : (Tryz.prog.info? 80).map (·.size) = some 7 := by kernel_rfl
theorem infoR : (Tryz.prog.info? 84).map (·.size) = some 11 := by kernel_rfl
theorem infoB : (Tryz.prog.info? 86).map (·.size) = some 2 := by kernel_rfl
theorem mayAllP_any (m : Int) (a : Option Addr) (cap : Nat) (l : List Ph) (w : World) (h : RowOf 13 Ph.cells w ⟨a, cap⟩ l) :
    Calls Tryz.prog 52 #[.slice a l.length cap, .int .i64 m, .func (.func 53) #[] #[]] w fun e w' => e = .returned (.bool (decide ((l.length : Int) ≤ m) && l.all Ph.may)) ∧ Below w.heap.size w w' := by
  have h1 := h.len
  unfold maxLen at h1
  have Hr := Lib.hid h
  clear h
  by_cases hm : (l.length : Int) ≤ m
  · have hm' : decide (m < (l.length : Int)) = false := decide_eq_false (by omega)
    have Hm := Lib.hid hm
    go_enter Tryz.func52, Tryz.ntmps52
    go_wp2
    go_loopw [15] (fun i wr => ∃ k : Nat, k ≤ l.length ∧ i = .int .i64 k ∧ (l.take k).all Ph.may = true ∧ Below w.heap.size w wr) (fun i _ => l.length - (intOf i).toNat)
    case atStart => exact ⟨0, Nat.zero_le _, rfl, rfl, Below.refl _ _⟩
    case round =>
      obtain ⟨k, hk, rfl, hall, hbel⟩ := hrel
      have Hall := Lib.hid hall
      have Hb := Lib.hid hbel
      clear hall hbel
      by_cases hlt : k < l.length
      · have hv := List.getElem?_eq_getElem hlt
        generalize l[k] = v at hv
        obtain ⟨x, hx, hcell⟩ := (Hr.out.below Hb.out).at hv
        obtain rfl : a = some x := hx
        have HV := Lib.hid hv
        have HC := Lib.hid hcell
        clear hv hcell
        go_wp2_with (first | (refine Row.wpList_load_lies rfl 23 _ rfl (x.add (k * 13)) rfl v.cells _ HC.out Tryz.underlying23 rfl infoP ?_) | (refine Row.wpList_store_new rfl 23 _ _ rfl _ _ v.cells.toArray rfl rfl rfl infoP rfl v.one ?_) | (refine wpList_load_row rfl 23 _ rfl _ rfl _ _ _ _ (heap_alloc_new _ _) Tryz.underlying23 rfl infoP ?_))
        refine (mayPhase_any v _).mono ?_
        rintro e w2 ⟨rfl, hb2⟩
        have B2 := Lib.hid (chain Hb.out (chain ((Below.refl _ _).alloc (Nat.le_refl _) _) hb2))
        clear hb2
        generalize hb : Ph.may v = b
        have HB := Lib.hid hb
        clear hb
        cases b
        · go_wp2
          go_ret
          exact ⟨ret_bool (by rw [all_break (f := Ph.may) HV.out HB.out, Bool.and_false]), B2.out⟩
        · go_wp2
          go_roundw
          case rel => exact ⟨k + 1, by omega, by go_num, all_step (f := Ph.may) HV.out Hall.out HB.out, B2.out⟩
          case measure => simp [intOf]; omega
      · go_wp2
        go_ret
        exact ⟨ret_bool (by rw [all_end Hall.out hlt, decide_eq_true (by have := Hm.out; omega)]; rfl), Hb.out⟩
  · have Hm := Lib.hid hm
    go_enter Tryz.func52, Tryz.ntmps52
    go_wp2
    go_ret
    exact ⟨ret_bool (by rw [decide_eq_false (by have := Hm.out; omega)]; rfl), Below.refl _ _⟩
theorem mayAllG_any (m : Int) (a : Option Addr) (cap : Nat) (l : List Gr) (w : World) (h : RowOf 2 Gr.cells w ⟨a, cap⟩ l) (h2 : ∀ v ∈ l, v.ok w) :
    Calls Tryz.prog 54 #[.slice a l.length cap, .int .i64 m, .func (.func 55) #[] #[]] w fun e w' => e = .returned (.bool (decide ((l.length : Int) ≤ m) && l.all (fun v => groupMay v.data))) ∧ Below w.heap.size w w' := by
  have h1 := h.len
  unfold maxLen at h1
  have Hr := Lib.hid h
  clear h
  have H2 := Lib.hid h2
  clear h2
  by_cases hm : (l.length : Int) ≤ m
  · have hm' : decide (m < (l.length : Int)) = false := decide_eq_false (by omega)
    have Hm := Lib.hid hm
    go_enter Tryz.func54, Tryz.ntmps54
    go_wp2
    go_loopw [15] (fun i wr => ∃ k : Nat, k ≤ l.length ∧ i = .int .i64 k ∧ (l.take k).all (fun v => groupMay v.data) = true ∧ Below w.heap.size w wr) (fun i _ => l.length - (intOf i).toNat)
    case atStart => exact ⟨0, Nat.zero_le _, rfl, rfl, Below.refl _ _⟩
    case round =>
      obtain ⟨k, hk, rfl, hall, hbel⟩ := hrel
      have Hall := Lib.hid hall
      have Hb := Lib.hid hbel
      clear hall hbel
      by_cases hlt : k < l.length
      · have hv := List.getElem?_eq_getElem hlt
        generalize l[k] = v at hv
        obtain ⟨x, hx, hcell⟩ := (Hr.out.below Hb.out).at hv
        obtain rfl : a = some x := hx
        have HV := Lib.hid hv
        have HC := Lib.hid hcell
        clear hv hcell
        go_wp2_with (first | (refine Row.wpList_load_lies rfl 55 _ rfl (x.add (k * 2)) rfl v.cells _ HC.out Tryz.underlying55 rfl infoG ?_) | (refine Row.wpList_store_new rfl 55 _ _ rfl _ _ v.cells.toArray rfl rfl rfl infoG rfl v.one ?_) | (refine wpList_load_row rfl 55 _ rfl _ rfl _ _ _ _ (heap_alloc_new _ _) Tryz.underlying55 rfl infoG ?_))
        refine (mayGroup_any v _ (((H2.out _ (List.mem_of_getElem? HV.out)).below Hb.out).below ((Below.refl _ _).alloc (Nat.le_refl _) _))).mono ?_
        rintro e w2 ⟨rfl, hb2⟩
        have B2 := Lib.hid (chain Hb.out (chain ((Below.refl _ _).alloc (Nat.le_refl _) _) hb2))
        clear hb2
        generalize hb : groupMay v.data = b
        have HB := Lib.hid hb
        clear hb
        cases b
        · go_wp2
          go_ret
          exact ⟨ret_bool (by rw [all_break (f := (fun v => groupMay v.data)) HV.out HB.out, Bool.and_false]), B2.out⟩
        · go_wp2
          go_roundw
          case rel => exact ⟨k + 1, by omega, by go_num, all_step (f := (fun v => groupMay v.data)) HV.out Hall.out HB.out, B2.out⟩
          case measure => simp [intOf]; omega
      · go_wp2
        go_ret
        exact ⟨ret_bool (by rw [all_end Hall.out hlt, decide_eq_true (by have := Hm.out; omega)]; rfl), Hb.out⟩
  · have Hm := Lib.hid hm
    go_enter Tryz.func54, Tryz.ntmps54
    go_wp2
    go_ret
    exact ⟨ret_bool (by rw [decide_eq_false (by have := Hm.out; omega)]; rfl), Below.refl _ _⟩
theorem mayAllD_any (m : Int) (a : Option Addr) (cap : Nat) (l : List Det) (w : World) (h : RowOf 7 Det.cells w ⟨a, cap⟩ l) :
    Calls Tryz.prog 57 #[.slice a l.length cap, .int .i64 m, .func (.func 58) #[] #[]] w fun e w' => e = .returned (.bool (decide ((l.length : Int) ≤ m) && l.all Det.may)) ∧ Below w.heap.size w w' := by
  have h1 := h.len
  unfold maxLen at h1
  have Hr := Lib.hid h
  clear h
  by_cases hm : (l.length : Int) ≤ m
  · have hm' : decide (m < (l.length : Int)) = false := decide_eq_false (by omega)
    have Hm := Lib.hid hm
    go_enter Tryz.func57, Tryz.ntmps57
    go_wp2
    go_loopw [15] (fun i wr => ∃ k : Nat, k ≤ l.length ∧ i = .int .i64 k ∧ (l.take k).all Det.may = true ∧ Below w.heap.size w wr) (fun i _ => l.length - (intOf i).toNat)
    case atStart => exact ⟨0, Nat.zero_le _, rfl, rfl, Below.refl _ _⟩
    case round =>
      obtain ⟨k, hk, rfl, hall, hbel⟩ := hrel
      have Hall := Lib.hid hall
      have Hb := Lib.hid hbel
      clear hall hbel
      by_cases hlt : k < l.length
      · have hv := List.getElem?_eq_getElem hlt
        generalize l[k] = v at hv
        obtain ⟨x, hx, hcell⟩ := (Hr.out.below Hb.out).at hv
        obtain rfl : a = some x := hx
        have HV := Lib.hid hv
        have HC := Lib.hid hcell
        clear hv hcell
        go_wp2_with (first | (refine Row.wpList_load_lies rfl 80 _ rfl (x.add (k * 7)) rfl v.cells _ HC.out Tryz.underlying80 rfl infoD ?_) | (refine Row.wpList_store_new rfl 80 _ _ rfl _ _ v.cells.toArray rfl rfl rfl infoD rfl v.one ?_) | (refine wpList_load_row rfl 80 _ rfl _ rfl _ _ _ _ (heap_alloc_new _ _) Tryz.underlying80 rfl infoD ?_))
        refine (mayDetector_any v _).mono ?_
        rintro e w2 ⟨rfl, hb2⟩
        have B2 := Lib.hid (chain Hb.out (chain ((Below.refl _ _).alloc (Nat.le_refl _) _) hb2))
        clear hb2
        generalize hb : Det.may v = b
        have HB := Lib.hid hb
        clear hb
        cases b
        · go_wp2
          go_ret
          exact ⟨ret_bool (by rw [all_break (f := Det.may) HV.out HB.out, Bool.and_false]), B2.out⟩
        · go_wp2
          go_roundw
          case rel => exact ⟨k + 1, by omega, by go_num, all_step (f := Det.may) HV.out Hall.out HB.out, B2.out⟩
          case measure => simp [intOf]; omega
      · go_wp2
        go_ret
        exact ⟨ret_bool (by rw [all_end Hall.out hlt, decide_eq_true (by have := Hm.out; omega)]; rfl), Hb.out⟩
  · have Hm := Lib.hid hm
    go_enter Tryz.func57, Tryz.ntmps57
    go_wp2
    go_ret
    exact ⟨ret_bool (by rw [decide_eq_false (by have := Hm.out; omega)]; rfl), Below.refl _ _⟩
theorem mayAllR_any (m : Int) (a : Option Addr) (cap : Nat) (l : List Rl) (w : World) (h : RowOf 11 Rl.cells w ⟨a, cap⟩ l) :
    Calls Tryz.prog 59 #[.slice a l.length cap, .int .i64 m, .func (.func 60) #[] #[]] w fun e w' => e = .returned (.bool (decide ((l.length : Int) ≤ m) && l.all Rl.may)) ∧ Below w.heap.size w w' := by
  have h1 := h.len
  unfold maxLen at h1
  have Hr := Lib.hid h
  clear h
  by_cases hm : (l.length : Int) ≤ m
  · have hm' : decide (m < (l.length : Int)) = false := decide_eq_false (by omega)
    have Hm := Lib.hid hm
    go_enter Tryz.func59, Tryz.ntmps59
    go_wp2
    go_loopw [15] (fun i wr => ∃ k : Nat, k ≤ l.length ∧ i = .int .i64 k ∧ (l.take k).all Rl.may = true ∧ Below w.heap.size w wr) (fun i _ => l.length - (intOf i).toNat)
    case atStart => exact ⟨0, Nat.zero_le _, rfl, rfl, Below.refl _ _⟩
    case round =>
      obtain ⟨k, hk, rfl, hall, hbel⟩ := hrel
      have Hall := Lib.hid hall
      have Hb := Lib.hid hbel
      clear hall hbel
      by_cases hlt : k < l.length
      · have hv := List.getElem?_eq_getElem hlt
        generalize l[k] = v at hv
        obtain ⟨x, hx, hcell⟩ := (Hr.out.below Hb.out).at hv
        obtain rfl : a = some x := hx
        have HV := Lib.hid hv
        have HC := Lib.hid hcell
        clear hv hcell
        go_wp2_with (first | (refine Row.wpList_load_lies rfl 84 _ rfl (x.add (k * 11)) rfl v.cells _ HC.out Tryz.underlying84 rfl infoR ?_) | (refine Row.wpList_store_new rfl 84 _ _ rfl _ _ v.cells.toArray rfl rfl rfl infoR rfl v.one ?_) | (refine wpList_load_row rfl 84 _ rfl _ rfl _ _ _ _ (heap_alloc_new _ _) Tryz.underlying84 rfl infoR ?_))
        refine (mayRail_any v _).mono ?_
        rintro e w2 ⟨rfl, hb2⟩
        have B2 := Lib.hid (chain Hb.out (chain ((Below.refl _ _).alloc (Nat.le_refl _) _) hb2))
        clear hb2
        generalize hb : Rl.may v = b
        have HB := Lib.hid hb
        clear hb
        cases b
        · go_wp2
          go_ret
          exact ⟨ret_bool (by rw [all_break (f := Rl.may) HV.out HB.out, Bool.and_false]), B2.out⟩
        · go_wp2
          go_roundw
          case rel => exact ⟨k + 1, by omega, by go_num, all_step (f := Rl.may) HV.out Hall.out HB.out, B2.out⟩
          case measure => simp [intOf]; omega
      · go_wp2
        go_ret
        exact ⟨ret_bool (by rw [all_end Hall.out hlt, decide_eq_true (by have := Hm.out; omega)]; rfl), Hb.out⟩
  · have Hm := Lib.hid hm
    go_enter Tryz.func59, Tryz.ntmps59
    go_wp2
    go_ret
    exact ⟨ret_bool (by rw [decide_eq_false (by have := Hm.out; omega)]; rfl), Below.refl _ _⟩
theorem mayAllB_any (m : Int) (a : Option Addr) (cap : Nat) (l : List Bs) (w : World) (h : RowOf 2 Bs.cells w ⟨a, cap⟩ l) :
    Calls Tryz.prog 61 #[.slice a l.length cap, .int .i64 m, .func (.func 62) #[] #[]] w fun e w' => e = .returned (.bool (decide ((l.length : Int) ≤ m) && l.all Bs.may)) ∧ Below w.heap.size w w' := by
  have h1 := h.len
  unfold maxLen at h1
  have Hr := Lib.hid h
  clear h
  by_cases hm : (l.length : Int) ≤ m
  · have hm' : decide (m < (l.length : Int)) = false := decide_eq_false (by omega)
    have Hm := Lib.hid hm
    go_enter Tryz.func61, Tryz.ntmps61
    go_wp2
    go_loopw [15] (fun i wr => ∃ k : Nat, k ≤ l.length ∧ i = .int .i64 k ∧ (l.take k).all Bs.may = true ∧ Below w.heap.size w wr) (fun i _ => l.length - (intOf i).toNat)
    case atStart => exact ⟨0, Nat.zero_le _, rfl, rfl, Below.refl _ _⟩
    case round =>
      obtain ⟨k, hk, rfl, hall, hbel⟩ := hrel
      have Hall := Lib.hid hall
      have Hb := Lib.hid hbel
      clear hall hbel
      by_cases hlt : k < l.length
      · have hv := List.getElem?_eq_getElem hlt
        generalize l[k] = v at hv
        obtain ⟨x, hx, hcell⟩ := (Hr.out.below Hb.out).at hv
        obtain rfl : a = some x := hx
        have HV := Lib.hid hv
        have HC := Lib.hid hcell
        clear hv hcell
        go_wp2_with (first | (refine Row.wpList_load_lies rfl 86 _ rfl (x.add (k * 2)) rfl v.cells _ HC.out Tryz.underlying86 rfl infoB ?_) | (refine Row.wpList_store_new rfl 86 _ _ rfl _ _ v.cells.toArray rfl rfl rfl infoB rfl v.one ?_) | (refine wpList_load_row rfl 86 _ rfl _ rfl _ _ _ _ (heap_alloc_new _ _) Tryz.underlying86 rfl infoB ?_))
        refine (mayBus_any v _).mono ?_
        rintro e w2 ⟨rfl, hb2⟩
        have B2 := Lib.hid (chain Hb.out (chain ((Below.refl _ _).alloc (Nat.le_refl _) _) hb2))
        clear hb2
        generalize hb : Bs.may v = b
        have HB := Lib.hid hb
        clear hb
        cases b
        · go_wp2
          go_ret
          exact ⟨ret_bool (by rw [all_break (f := Bs.may) HV.out HB.out, Bool.and_false]), B2.out⟩
        · go_wp2
          go_roundw
          case rel => exact ⟨k + 1, by omega, by go_num, all_step (f := Bs.may) HV.out Hall.out HB.out, B2.out⟩
          case measure => simp [intOf]; omega
      · go_wp2
        go_ret
        exact ⟨ret_bool (by rw [all_end Hall.out hlt, decide_eq_true (by have := Hm.out; omega)]; rfl), Hb.out⟩
  · have Hm := Lib.hid hm
    go_enter Tryz.func61, Tryz.ntmps61
    go_wp2
    go_ret
    exact ⟨ret_bool (by rw [decide_eq_false (by have := Hm.out; omega)]; rfl), Below.refl _ _⟩
end May
namespace May
open Go.ChangeShapes Go.WideShapes Go.ChangeAt Go.RowKit
open Tab
def listMay {α : Type} (m : Int) (f : α → Bool) (l : List α) : Bool := decide ((l.length : Int) ≤ m) && l.all f
def tabMay (T : Tab) : Bool :=
  listMay 8 Ph.may T.phases && (listMay 4 groupMay T.groups && (allIn 255 T.conflict && (listMay 16 Det.may T.dets && (listMay 4 Rl.may T.rails && (listMay 4 Bs.may T.buses &&
    (allIn 9999 [T.extend, T.budget, T.start, T.revert, T.least] && (allIn 2 T.flash && allIn 2147483647 [T.window, T.share])))))))
/-- Ints that lie in a block, as a row. -/
theorem ints_in {w : World} {g : Nat} {cs : Array Value} {t : TypeId} {fr : Nat × Nat} (hg : w.heap[g]? = some (.cells cs t fr)) (o n : Nat) (l : List Int) (h : (cs.toList.drop o).take n = l.map I) (hn : l.length = n) (hm : n ≤ maxLen) :
    IntRow w ⟨some ⟨g, o, none⟩, n⟩ l := by
  subst hn
  refine .inr ⟨_, rfl, Nat.le_refl _, hm, fun i v hv j u hu => ?_⟩
  cases j with
  | zero =>
    obtain rfl := Option.some.inj hu
    rw [Nat.mul_one, add_two, Nat.add_zero, Addr.add_mid]
    exact range_of hg o _ _ h i _ (by simp [hv])
  | succ j => cases hu
/-- Phases that lie at a block's head, as a row. -/
theorem phases_in {w : World} {g : Nat} {cs : Array Value} {t : TypeId} {fr : Nat × Nat} {T : Tab} {h : Hd} (hg : w.heap[g]? = some (.cells cs t fr)) (C : CellsOk T h cs) (hn : T.phases.length = 8) :
    RowOf 13 Ph.cells w ⟨some ⟨g, 0, none⟩, 8⟩ T.phases := by
  refine .inr ⟨_, rfl, by rw [hn]; exact Nat.le_refl _, (show 8 ≤ maxLen by decide), fun i v hv j u hu => ?_⟩
  rw [add_two, Addr.add_mid, Nat.zero_add, Nat.mul_comm]
  exact range_of hg (13 * i) 13 _ (C.phase i v hv) j u hu
/-- What a walk over a boxed table holds on to. -/
structure St (w : World) (N : Nat) (cs : Array Value) (h : Hd) (T : Tab) (W : World) : Prop where
  bel : Below w.heap.size w W
  blk : W.heap[N]? = some (.cells cs 31 (0, 0))
  tab : IsTab W h T
  le : w.heap.size ≤ N
theorem St.step {w W W' : World} {N : Nat} {cs : Array Value} {h : Hd} {T : Tab} (k : St w N cs h T W) (hb : Below W.heap.size W W') : St w N cs h T W' :=
  ⟨chain k.bel hb, by rw [hb.block N (Array.getElem?_eq_some_iff.1 k.blk).1]; exact k.blk, k.tab.below hb, k.le⟩
theorem St.cell {w W : World} {N : Nat} {cs : Array Value} {h : Hd} {T : Tab} (k : St w N cs h T W) {o : Nat} {v : Value} (hv : cs[o]? = some v) : W.cell? ⟨N, o, none⟩ = some v := by
  rw [cell_of_row _ _ _ _ _ _ k.blk]; exact hv
theorem St.box {w : World} {cs : Array Value} {h : Hd} {T : Tab} (k : IsTab w h T) : St w w.heap.size cs h T (w.alloc (.cells cs 31)) :=
  ⟨(Below.refl _ _).alloc (Nat.le_refl _) _, heap_alloc_new _ _, k.below ((Below.refl _ _).alloc (Nat.le_refl _) _), Nat.le_refl _⟩
theorem within_len (m : Int) (a : Option Addr) (cap : Nat) (l : List Int) (n : Nat) (hn : l.length = n) (w : World) (h : IntRow w ⟨a, cap⟩ l) :
    Calls Tryz.prog 56 #[.int .i64 m, .slice a n cap] w fun e w' => e = .returned (.bool (allIn m l)) ∧ w = w' := by
  subst hn; exact within_any m a cap l w h
theorem upto_len (m : Int) (a : Option Addr) (cap : Nat) (l : List Int) (n : Nat) (hn : l.length = n) (w : World) (h : IntRow w ⟨a, cap⟩ l) :
    Calls Tryz.prog 78 #[.slice a n cap, .int .i64 m] w fun e w' => e = .returned (.bool (allIn m l)) ∧ w = w' := by
  subst hn; exact upto_any m a cap l w h
theorem may_any (T : Tab) (h : Hd) (w : World) (k : IsTab w h T) :
    Calls Tryz.prog 23 #[.agg (T.cells h).toArray] w fun e w' => e = .returned (.bool (tabMay T)) ∧ Below w.heap.size w w' := by
  have C := Lib.hid (cells_ok k)
  have L8 := Lib.hid k.ph
  have Lc := Lib.hid k.cf
  have Lf := Lib.hid k.fl
  generalize (T.cells h).toArray = cs at C ⊢
  have hsz := C.out.size
  obtain ⟨gs, hgd, hgr⟩ := k.groups
  have Hgr := Lib.hid hgr
  clear hgr
  have hw0 : Below w.heap.size w (w.alloc (.cells cs 31)) := (Below.refl _ _).alloc (Nat.le_refl _) _
  have HW0 := Lib.hid hw0
  clear hw0
  have S0 := Lib.hid (St.box (cs := cs) k)
  clear k
  have Hgd := Lib.hid hgd
  have hgl : T.groups.length = gs.length := by rw [← hgd, List.length_map]
  have Hgl := Lib.hid hgl
  clear hgd hgl
  have hph := phases_in S0.out.blk C.out L8.out
  have cP := mayAllP_any 8 (some ⟨w.heap.size, 0, none⟩) 8 T.phases _ hph
  rw [L8.out] at cP
  have CP := Lib.hid cP
  clear cP hph
  have L8p : Hid ((8 : Nat) = T.phases.length) := L8.out.symm
  go_enter Tryz.func23, Tryz.ntmps23
  go_wp2_with fail
  refine (CP.out).mono ?_
  rintro e w1 ⟨rfl, hb1⟩
  have S1 := Lib.hid (S0.out.step hb1)
  clear hb1 S0
  generalize hv : (decide (((8 : Nat) : Int) ≤ 8) && T.phases.all Ph.may) = b1
  have HB1 : Hid (listMay 8 Ph.may T.phases = b1) := (by unfold listMay; rw [L8.out]; exact hv)
  clear hv
  cases b1
  · go_wp2
    go_ret
    exact ⟨ret_bool (by unfold tabMay; simp only [HB1.out, Bool.true_and, Bool.false_and, Bool.and_true, Bool.and_false]), S1.out.bel⟩
  have c104 := S1.out.cell C.out.g
  rw [Hgl.out] at c104
  go_wp2_with fail
  refine (mayAllG_any 4 h.g.a h.g.cap gs _ (Hgr.out.1.below S1.out.bel) (fun v hv => (Hgr.out.2 v hv).below S1.out.bel)).mono ?_
  rintro e w2 ⟨rfl, hb2⟩
  have S2 := Lib.hid (S1.out.step hb2)
  clear hb2 S1
  generalize hv : (decide ((gs.length : Int) ≤ 4) && gs.all (fun v => groupMay v.data)) = b2
  have HB2 : Hid (listMay 4 groupMay T.groups = b2) := (by unfold listMay; rw [← Hgd.out, List.length_map, List.all_map]; exact hv)
  clear hv
  cases b2
  · go_wp2
    go_ret
    exact ⟨ret_bool (by unfold tabMay; simp only [HB1.out, HB2.out, Bool.true_and, Bool.false_and, Bool.and_true, Bool.and_false]), S2.out.bel⟩
  go_wp2_with fail
  refine (within_len 255 (some ⟨w.heap.size, 105, none⟩) 8 T.conflict 8 Lc.out _ (ints_in S2.out.blk 105 8 _ C.out.conflict Lc.out (by decide))).mono ?_
  rintro e w3 ⟨rfl, rfl⟩
  have S3 := S2
  generalize hv : allIn 255 T.conflict = b3
  have HB3 : Hid (allIn 255 T.conflict = b3) := hv
  clear hv
  cases b3
  · go_wp2
    go_ret
    exact ⟨ret_bool (by unfold tabMay; simp only [HB1.out, HB2.out, HB3.out, Bool.true_and, Bool.false_and, Bool.and_true, Bool.and_false]), S3.out.bel⟩
  have c113 := S3.out.cell C.out.d
  go_wp2_with fail
  refine (mayAllD_any 16 h.d.a h.d.cap T.dets _ S3.out.tab.dets).mono ?_
  rintro e w4 ⟨rfl, hb4⟩
  have S4 := Lib.hid (S3.out.step hb4)
  clear hb4 S3
  generalize hv : (decide ((T.dets.length : Int) ≤ 16) && T.dets.all Det.may) = b4
  have HB4 : Hid (listMay 16 Det.may T.dets = b4) := hv
  clear hv
  cases b4
  · go_wp2
    go_ret
    exact ⟨ret_bool (by unfold tabMay; simp only [HB1.out, HB2.out, HB3.out, HB4.out, Bool.true_and, Bool.false_and, Bool.and_true, Bool.and_false]), S4.out.bel⟩
  have c114 := S4.out.cell C.out.r
  go_wp2_with fail
  refine (mayAllR_any 4 h.r.a h.r.cap T.rails _ S4.out.tab.rails).mono ?_
  rintro e w5 ⟨rfl, hb5⟩
  have S5 := Lib.hid (S4.out.step hb5)
  clear hb5 S4
  generalize hv : (decide ((T.rails.length : Int) ≤ 4) && T.rails.all Rl.may) = b5
  have HB5 : Hid (listMay 4 Rl.may T.rails = b5) := hv
  clear hv
  cases b5
  · go_wp2
    go_ret
    exact ⟨ret_bool (by unfold tabMay; simp only [HB1.out, HB2.out, HB3.out, HB4.out, HB5.out, Bool.true_and, Bool.false_and, Bool.and_true, Bool.and_false]), S5.out.bel⟩
  have c115 := S5.out.cell C.out.b
  go_wp2_with fail
  refine (mayAllB_any 4 h.b.a h.b.cap T.buses _ S5.out.tab.buses).mono ?_
  rintro e w6 ⟨rfl, hb6⟩
  have S6 := Lib.hid (S5.out.step hb6)
  clear hb6 S5
  generalize hv : (decide ((T.buses.length : Int) ≤ 4) && T.buses.all Bs.may) = b6
  have HB6 : Hid (listMay 4 Bs.may T.buses = b6) := hv
  clear hv
  cases b6
  · go_wp2
    go_ret
    exact ⟨ret_bool (by unfold tabMay; simp only [HB1.out, HB2.out, HB3.out, HB4.out, HB5.out, HB6.out, Bool.true_and, Bool.false_and, Bool.and_true, Bool.and_false]), S6.out.bel⟩
  have c116 := S6.out.cell C.out.extend
  have c117 := S6.out.cell C.out.budget
  have c118 := S6.out.cell C.out.start
  have c119 := S6.out.cell C.out.revert
  have c120 := S6.out.cell C.out.least
  go_wp2_with fail
  refine (within_any 9999 _ _ [T.extend, T.budget, T.start, T.revert, T.least] _ (row_new _ _ [T.extend, T.budget, T.start, T.revert, T.least] 5 rfl (by decide) _ rfl)).mono ?_
  rintro e w7 ⟨rfl, hw⟩
  have hb7 : Below w6.heap.size w6 w7 := hw ▸ (Below.refl _ _).alloc (Nat.le_refl _) _
  clear hw
  have S7 := Lib.hid (S6.out.step hb7)
  clear hb7 S6
  generalize hv : allIn 9999 [T.extend, T.budget, T.start, T.revert, T.least] = b7
  have HB7 : Hid (allIn 9999 [T.extend, T.budget, T.start, T.revert, T.least] = b7) := hv
  clear hv
  cases b7
  · go_wp2
    go_ret
    exact ⟨ret_bool (by unfold tabMay; simp only [HB1.out, HB2.out, HB3.out, HB4.out, HB5.out, HB6.out, HB7.out, Bool.true_and, Bool.false_and, Bool.and_true, Bool.and_false]), S7.out.bel⟩
  go_wp2_with fail
  refine (within_len 2 (some ⟨w.heap.size, 121, none⟩) 8 T.flash 8 Lf.out _ (ints_in S7.out.blk 121 8 _ C.out.flash Lf.out (by decide))).mono ?_
  rintro e w8 ⟨rfl, rfl⟩
  have S8 := S7
  generalize hv : allIn 2 T.flash = b8
  have HB8 : Hid (allIn 2 T.flash = b8) := hv
  clear hv
  cases b8
  · go_wp2
    go_ret
    exact ⟨ret_bool (by unfold tabMay; simp only [HB1.out, HB2.out, HB3.out, HB4.out, HB5.out, HB6.out, HB7.out, HB8.out, Bool.true_and, Bool.false_and, Bool.and_true, Bool.and_false]), S8.out.bel⟩
  have c129 := S8.out.cell C.out.window
  have c130 := S8.out.cell C.out.share
  go_wp2_with fail
  refine (within_any 2147483647 _ _ [T.window, T.share] _ (row_new _ _ [T.window, T.share] 2 rfl (by decide) _ rfl)).mono ?_
  rintro e w9 ⟨rfl, hw⟩
  have hb9 : Below w7.heap.size w7 w9 := hw ▸ (Below.refl _ _).alloc (Nat.le_refl _) _
  clear hw
  have S9 := Lib.hid (S8.out.step hb9)
  clear hb9 S8
  generalize hv : allIn 2147483647 [T.window, T.share] = b9
  have HB9 : Hid (allIn 2147483647 [T.window, T.share] = b9) := hv
  clear hv
  go_wp2
  go_ret
  exact ⟨ret_bool (by unfold tabMay; simp only [HB1.out, HB2.out, HB3.out, HB4.out, HB5.out, HB6.out, HB7.out, HB8.out, HB9.out, Bool.true_and, Bool.false_and, Bool.and_true, Bool.and_false]), S9.out.bel⟩
end May
namespace Cd
open Go Tab
open Put (low low_len low_lt)
def B8 (l : List Nat) : Prop := ∀ x ∈ l, x < 256
theorem B8.app {a b : List Nat} (h : B8 a) (k : B8 b) : B8 (a ++ b) := fun x hx => (List.mem_append.1 hx).elim (h x) (k x)
theorem B8.low (k : Nat) (n : Int) : B8 (low k n) := low_lt k n
theorem B8.puts (k : Nat) (l : List Int) : B8 (puts k l) := puts_lt k l
theorem B8.flat {α : Type} {f : α → List Nat} {l : List α} (h : ∀ x, B8 (f x)) : B8 (l.flatMap f) := fun x hx => by
  obtain ⟨y, _, hy⟩ := List.mem_flatMap.1 hx
  exact h y x hy
theorem B8.list {α : Type} {f : α → List Nat} {l : List α} (h : ∀ x, B8 (f x)) : B8 (listB f l) := (B8.low _ _).app (B8.flat h)
theorem B8.ph (p : Ph) : B8 (phB p) := (B8.puts _ _).app ((B8.puts _ _).app (B8.puts _ _))
theorem B8.row (l : List Int) : B8 (rowB l) := (B8.low _ _).app (B8.puts _ _)
theorem B8.gr (y : List Int × List Int) : B8 (grB y) := (B8.row _).app (B8.row _)
theorem B8.det (d : Det) : B8 (detB d) := (B8.low _ _).app ((B8.low _ _).app ((B8.low _ _).app ((B8.low _ _).app ((B8.low _ _).app (B8.puts _ _)))))
theorem B8.rl (r : Rl) : B8 (rlB r) := (B8.puts _ _).app ((B8.puts _ _).app (B8.puts _ _))
theorem B8.bs (b : Bs) : B8 (bsB b) := (B8.puts _ _).app (B8.puts _ _)
theorem B8.items (T : Tab) : B8 (itemsB T) := (B8.flat B8.ph).app ((B8.list B8.gr).app ((B8.puts _ _).app ((B8.list B8.det).app ((B8.list B8.rl).app ((B8.list B8.bs).app ((B8.puts _ _).app ((B8.puts _ _).app (B8.puts _ _))))))))
theorem B8.body (T : Tab) : B8 (bodyB T) := B8.app (fun x hx => by simp at hx; omega) (B8.items T)
/-- A table that may be. -/
structure Few (T : Tab) : Prop where
  p : T.phases.length = 8
  c : T.conflict.length = 8
  f : T.flash.length = 8
  g : T.groups.length ≤ 4
  d : T.dets.length ≤ 16
  r : T.rails.length ≤ 4
  b : T.buses.length ≤ 4
  row : ∀ y ∈ T.groups, y.1.length ≤ 8 ∧ y.2.length ≤ 8
theorem few_of {T : Tab} {w : World} {h : Hd} (ht : IsTab w h T) (hm : May.tabMay T = true) : Few T := by
  unfold May.tabMay May.listMay at hm
  simp only [Bool.and_eq_true, decide_eq_true_eq] at hm
  obtain ⟨_, ⟨h1, h2⟩, _, ⟨h3, _⟩, ⟨h4, _⟩, ⟨h5, _⟩, _⟩ := hm
  refine ⟨ht.ph, ht.cf, ht.fl, by omega, by omega, by omega, by omega, fun y hy => ?_⟩
  have := List.all_eq_true.1 h2 y hy
  unfold May.groupMay May.rowMay at this
  simp only [Bool.and_eq_true, decide_eq_true_eq] at this
  exact ⟨this.1.1, this.2.1⟩
theorem Few.light {T : Tab} (h : Few T) : Po.Light T := ⟨by have := h.g; omega, by have := h.d; omega, by have := h.r; omega, by have := h.b; omega, h.row⟩
theorem Few.steps {T : Tab} (h : Few T) : Po.stepsT T ≤ 400 := by unfold Po.stepsT; have := h.g; have := h.d; have := h.r; have := h.b; omega
theorem Few.len {T : Tab} (h : Few T) : (bodyB T).length ≤ 2046 := by
  have h1 := flat_len T.phases (f := phB) (n := 22) (fun x _ => by rw [phB_len]; exact Nat.le_refl _)
  have h2 := listB_len T.groups (f := grB) (n := 18) (fun y hy => by unfold grB; rw [List.length_append, rowB_len, rowB_len]; have := h.row y hy; omega)
  have h3 := listB_len T.dets (f := detB) (n := 37) (fun x _ => by rw [detB_len]; exact Nat.le_refl _)
  have h4 := listB_len T.rails (f := rlB) (n := 20) (fun x _ => by rw [rlB_len]; exact Nat.le_refl _)
  have h5 := listB_len T.buses (f := bsB) (n := 3) (fun x _ => by rw [bsB_len]; exact Nat.le_refl _)
  unfold bodyB itemsB
  simp only [List.length_append, puts_len, List.length_cons, List.length_nil]
  have := h.p; have := h.c; have := h.f; have := h.g; have := h.d; have := h.r; have := h.b
  omega
end Cd
namespace Crc
open Go.ChangeShapes Go.WideShapes Go.ChangeAt Go.RowKit
open CrcM
theorem ret_int {k : IntKind} {a b : Int} (h : a = b) : Ending.returned (.int k a) = .returned (.int k b) := by rw [h]
theorem wrap16 (a : Nat) : IntKind.u16.wrap (a : Int) = ((a % 65536 : Nat) : Int) := by rw [IntKind.wrap_u16]; omega
theorem xor_rule (a : Nat) (h : a < 65536) : bits .xor .u16 (a : Int) 4129 = ((a ^^^ 4129 : Nat) : Int) := u16_xor_nat a 4129 h (by decide)
theorem top_bit (c : Nat) (h : c < 65536) : bits .and .u16 (c : Int) 32768 = if c / 32768 % 2 = 1 then 32768 else 0 := by
  have h1 := u16_and_nat c 32768 h (by decide)
  rw [show bits .and .u16 (c : Int) 32768 = ((c &&& 32768 : Nat) : Int) from h1]
  have h2 : c &&& 32768 = if c / 32768 % 2 = 1 then 32768 else 0 := by
    have h5 : c.testBit 15 = decide (c / 32768 % 2 = 1) := Nat.testBit_eq_decide_div_mod_eq
    apply Nat.eq_of_testBit_eq
    intro i
    rw [Nat.testBit_and, show (32768 : Nat) = 2 ^ 15 from rfl, Nat.testBit_two_pow]
    by_cases hi : 15 = i
    · subst hi
      rw [h5]
      by_cases h4 : c / 32768 % 2 = 1
      · rw [if_pos h4, decide_eq_true h4]; decide
      · rw [if_neg h4, decide_eq_false h4]; decide
    · rw [decide_eq_false hi, Bool.and_false]
      split
      · rw [Nat.testBit_two_pow, decide_eq_false hi]
      · rw [Nat.zero_testBit]
  rw [h2]; split <;> rfl
theorem dbl_hit (c : Nat) (h : c < 65536) (hc : c / 32768 % 2 = 1) : bits .xor .u16 (IntKind.u16.wrap ((c : Int) * 2)) 4129 = (dbl c : Nat) := by
  rw [show (c : Int) * 2 = ((2 * c : Nat) : Int) by omega, wrap16, xor_rule _ (Nat.mod_lt _ (by decide))]
  unfold dbl; rw [if_pos hc]
theorem dbl_miss (c : Nat) (h : c < 65536) (hc : ¬ c / 32768 % 2 = 1) : IntKind.u16.wrap ((c : Int) * 2) = (dbl c : Nat) := by
  rw [show (c : Int) * 2 = ((2 * c : Nat) : Int) by omega, wrap16]
  unfold dbl; rw [if_neg hc, Nat.xor_zero]
theorem double_any (c : Nat) (h : c < 65536) (w : World) :
    Calls Tryz.prog 129 #[.int .u16 (c : Int)] w fun e w' => e = .returned (.int .u16 (dbl c : Nat)) ∧ w = w' := by
  have hb := top_bit c h
  by_cases hc : c / 32768 % 2 = 1
  · rw [if_pos hc] at hb
    have HS := Lib.hid (dbl_hit c h hc)
    clear hc
    go_enter Tryz.func129, Tryz.ntmps129
    go_wp2
    go_ret
    exact ⟨ret_int HS.out, rfl⟩
  · rw [if_neg hc] at hb
    have HS := Lib.hid (dbl_miss c h hc)
    clear hc
    go_enter Tryz.func129, Tryz.ntmps129
    go_wp2
    go_ret
    exact ⟨ret_int HS.out, rfl⟩
/-! ### bytes -/
/-- A slice's address under which the bytes l lie. -/
def Row (w : World) (a : Option Addr) (l : List Nat) : Prop := l.length ≤ maxLen ∧ (∀ x ∈ l, x < 256) ∧ (l = [] ∨ ∃ x, a = some x ∧ ∀ i, i < l.length → w.cell? (x.add i) = some (.int .u8 (l.getD i 0 : Nat)))
theorem Row.cells {w : World} {a : Option Addr} {l : List Nat} (h : Row w a l) {k : Nat} (hk : k < l.length) : ∃ x, a = some x ∧ ∀ i, i < l.length → w.cell? (x.add i) = some (.int .u8 (l.getD i 0 : Nat)) := by
  rcases h.2.2 with rfl | h
  · simp at hk
  · exact h
theorem Row.below {w w' : World} {a : Option Addr} {l : List Nat} (h : Row w a l) (hb : Below w.heap.size w w') : Row w' a l := by
  refine ⟨h.1, h.2.1, ?_⟩
  rcases h.2.2 with h | ⟨x, hx, hc⟩
  · exact .inl h
  · exact .inr ⟨x, hx, fun i hi => (hb.cell (World.block_lt_of_cell? w _ (hc i hi))).trans (hc i hi)⟩
theorem Row.lt {w : World} {a : Option Addr} {l : List Nat} (h : Row w a l) (k : Nat) (hk : k < l.length) : l.getD k 0 < 256 := by
  rw [List.getD_eq_getElem?_getD, List.getElem?_eq_getElem hk]; exact h.2.1 _ (List.getElem_mem hk)
theorem bit_of (y m : Nat) (hy : y < 256) : IntKind.u16.wrap (bits .and .u8 ((y : Int) / 2 ^ (7 - m)) 1) = ((y / 2 ^ (7 - m) % 2 : Nat) : Int) := by
  have h1 : ((y : Int) / 2 ^ (7 - m)) = ((y / 2 ^ (7 - m) : Nat) : Int) := by simp
  have h2 : y / 2 ^ (7 - m) < 256 := Nat.lt_of_le_of_lt (Nat.div_le_self _ _) hy
  generalize y / 2 ^ (7 - m) = z at h1 h2 ⊢
  have h3 := u8_and_nat z 1 h2 (by decide)
  rw [h1, show bits .and .u8 (z : Int) 1 = ((z &&& 1 : Nat) : Int) from h3, Nat.and_one_is_mod, wrap16]
  omega
theorem test_eq (q y b : Nat) (h : q / 32768 = b) : ((q : Int) / 32768 != (b : Int)) = false := by
  rw [bne_eq_false_iff_eq]; omega
theorem test_ne (q y b : Nat) (h : ¬ q / 32768 = b) : ((q : Int) / 32768 != (b : Int)) = true := by
  rw [bne_iff_ne]; omega
theorem bit_miss (q b : Nat) (h : q < 65536) (hb : q / 32768 = b) : IntKind.u16.wrap ((q : Int) * 2) = (bitStep q b : Nat) := by
  rw [show (q : Int) * 2 = ((2 * q : Nat) : Int) by omega, wrap16]
  unfold bitStep; rw [if_neg (by omega)]
theorem bit_hit (q b : Nat) (h : q < 65536) (hb : ¬ q / 32768 = b) : bits .xor .u16 (IntKind.u16.wrap ((q : Int) * 2)) 4129 = (bitStep q b : Nat) := by
  rw [show (q : Int) * 2 = ((2 * q : Nat) : Int) by omega, wrap16, xor_rule _ (Nat.mod_lt _ (by decide))]
  unfold bitStep; rw [if_pos (by omega)]
theorem ref_any (c : Nat) (hc : c < 65536) (a : Option Addr) (cap : Nat) (l : List Nat) (w : World) (h : Row w a l) :
    Calls Tryz.prog 37 #[.int .u16 (c : Int), .slice a l.length cap] w fun e w' => e = .returned (.int .u16 (crc c l : Nat)) ∧ w = w' := by
  have h1 := h.1
  unfold maxLen at h1
  have Hr := Lib.hid h
  clear h
  go_enter Tryz.func37, Tryz.ntmps37
  go_wp2
  go_loop [0, 5] (fun t i => ∃ k : Nat, k ≤ l.length ∧ i = .int .i64 k ∧ t = .int .u16 (crc c (l.take k) : Nat)) (fun _ i => l.length - (intOf i).toNat)
  case atStart => exact ⟨0, Nat.zero_le _, rfl, rfl⟩
  case round =>
    obtain ⟨k, hk, rfl, rfl⟩ := hrel
    by_cases hlt : k < l.length
    · have hs := CrcM.take_snoc l k hlt
      have hx := Hr.out.lt k hlt
      obtain ⟨x, rfl, hcl⟩ := Hr.out.cells hlt
      have hcell := hcl k hlt
      have hd := crc_lt c (l.take k) hc
      have HS : Hid (crc c (l.take (k + 1)) = bits8 (crc c (l.take k)) (l.getD k 0) 8) := by
        show _ = _
        rw [hs, crc_snoc, bits8_step _ _ hd hx]
      clear hcl hs
      generalize crc c (l.take k) = d at hd HS
      generalize l.getD k 0 = y at hcell hx HS
      go_wp2
      go_loop [0, 6] (fun t i => ∃ m : Nat, m ≤ 8 ∧ i = .int .i64 (7 - (m : Int)) ∧ t = .int .u16 (bits8 d y m : Nat)) (fun _ i => (1 + intOf i).toNat)
      case atStart => exact ⟨0, Nat.zero_le _, rfl, rfl⟩
      case round =>
        obtain ⟨m, hm, rfl, rfl⟩ := hrel
        by_cases hlt : m < 8
        · have hq := bits8_lt d y m hd
          have hw1 := bit_of y m hx
          by_cases ht : bits8 d y m / 32768 = y / 2 ^ (7 - m) % 2
          · have hT := test_eq _ y _ ht
            have HB := Lib.hid (bit_miss _ _ hq ht)
            have HQ : Hid (bits8 d y (m + 1) = bitStep (bits8 d y m) (y / 2 ^ (7 - m) % 2)) := rfl
            rw [← hw1] at hT
            clear ht hw1
            generalize bits8 d y m = q at hq hT HB HQ
            go_wp2
            go_round
            case rel => exact ⟨m + 1, by omega, by go_num, by rw [HQ.out, HB.out]⟩
            case measure => simp [intOf]; omega
          · have hT := test_ne _ y _ ht
            have HB := Lib.hid (bit_hit _ _ hq ht)
            have HQ : Hid (bits8 d y (m + 1) = bitStep (bits8 d y m) (y / 2 ^ (7 - m) % 2)) := rfl
            rw [← hw1] at hT
            clear ht hw1
            generalize bits8 d y m = q at hq hT HB HQ
            go_wp2
            go_round
            case rel => exact ⟨m + 1, by omega, by go_num, by rw [HQ.out, HB.out]⟩
            case measure => simp [intOf]; omega
        · obtain rfl : m = 8 := by omega
          go_wp2
          go_round
          case rel => exact ⟨k + 1, by omega, by go_num, by rw [HS.out]⟩
          case measure => simp [intOf]; omega
    · go_wp2
      go_ret
      have : k = l.length := by omega
      subst this
      exact ⟨by rw [List.take_of_length_le (Nat.le_refl _)]; rfl, rfl⟩
/-! ### the table -/
/-- The table as it is filled: its first k elements. -/
def cells (k : Nat) : Array Value := ((List.range 256).map fun i => if i < k then .int .u16 (tab i : Nat) else .int .u16 0).toArray
theorem cells_size (k : Nat) : (cells k).size = 256 := by simp [cells]
theorem cells_at (k i : Nat) (h : i < 256) : (cells k)[i]? = some (if i < k then .int .u16 (tab i : Nat) else .int .u16 0) := by
  unfold cells
  rw [List.getElem?_toArray, List.getElem?_map, List.getElem?_range h]; rfl
theorem cells_zero : Array.replicate 256 (.int .u16 0) = cells 0 := by
  apply Array.ext_getElem?
  intro i
  by_cases h : i < 256
  · rw [cells_at 0 i h, Array.getElem?_replicate, if_pos h]; rfl
  · rw [Array.getElem?_eq_none (by simp; omega), Array.getElem?_eq_none (by rw [cells_size]; omega)]
theorem cells_set (k : Nat) (h : k < 256) : (cells k).setIfInBounds k (.int .u16 (tab k : Nat)) = cells (k + 1) := by
  apply Array.ext_getElem?
  intro i
  by_cases hi : i < 256
  · by_cases e : k = i
    · subst e
      rw [Array.getElem?_setIfInBounds_self_of_lt (by rw [cells_size]; exact h), cells_at _ _ h, if_pos (Nat.lt_succ_self _)]
    · rw [Array.getElem?_setIfInBounds_ne e, cells_at _ _ hi, cells_at _ _ hi]
      by_cases h2 : i < k
      · rw [if_pos h2, if_pos (by omega)]
      · rw [if_neg h2, if_neg (by omega)]
  · rw [Array.getElem?_eq_none (by rw [Array.size_setIfInBounds, cells_size]; omega), Array.getElem?_eq_none (by rw [cells_size]; omega)]
theorem cells_half (k : Nat) (h : k < 256) : (cells k)[k / 2]? = some (.int .u16 (tab (k / 2) : Nat)) := by
  rw [cells_at _ _ (by omega)]
  by_cases h2 : k / 2 < k
  · rw [if_pos h2]
  · have : k = 0 := by omega
    subst this
    rw [if_neg (by decide)]
    rw [show 0 / 2 = 0 from rfl, tab_zero]; rfl
theorem cells_one (k : Nat) : (cells k).all (·.oneCell') = true := by
  rw [Array.all_eq_true]
  intro i hi
  rw [cells_size] at hi
  have h1 := cells_at k i hi
  rw [Array.getElem?_eq_getElem (by rw [cells_size]; exact hi)] at h1
  rw [Option.some.inj h1]
  split <;> rfl
theorem store_whole (w : World) (g : Nat) (t : TypeId) (j k : Nat) (hg : w.heap[g]? = some (.cells (cells j) t (0, 0))) :
    (storeCells ⟨g, 0, none⟩ (cells k).toList 0).run Tryz.prog w = .ok () (w.setRow g (cells k)) := by
  have := run_storeCells_from (P := Tryz.prog) g t (cells k).toList 0 (cells j) w hg (by simp [cells_size]) (fun v hv => (Array.all_eq_true_iff_forall_mem.1 (cells_one k)) v (by simpa using hv))
  simpa using this
theorem info36 : (Tryz.prog.info? 165).map (fun i => (i.zero, i.size)) = some (some (.agg (Array.replicate 256 (.int .u16 0))), 256) := by kernel_rfl
theorem table_any (w : World) :
    Calls Tryz.prog 111 #[] w fun e w' => e = .returned (.agg (cells 256)) ∧ Below w.heap.size w w' := by
  obtain ⟨hz, hi⟩ := zero_of_info info36
  rw [cells_zero] at hz
  have Hi := Lib.hid hi
  clear hi
  go_enter Tryz.func111, Tryz.ntmps111
  go_wp2_with fail
  go_loopw [3] (fun i wr => ∃ k : Nat, k ≤ 256 ∧ i = .int .i64 k ∧ wr = (w.alloc (.cells (cells 0) 165)).alloc (.cells (cells k) 165)) (fun i _ => 256 - (intOf i).toNat)
  case atStart => exact ⟨0, by omega, rfl, rfl⟩
  case round =>
    obtain ⟨k, hk, rfl, rfl⟩ := hrel
    by_cases hlt : k < 256
    · have hcell := cells_half k hlt
      have hsz := cells_size k
      have ht := tab_lt (k / 2)
      have HS := Lib.hid (cells_set k hlt)
      have hto : ((k : Int) / 2).toNat = k / 2 := by omega
      have hd := dbl_lt (tab (k / 2))
      by_cases ho : k % 2 = 1
      · have hx : bits .xor .u16 (dbl (tab (k / 2)) : Nat) 4129 = (tab k : Nat) := by rw [xor_rule _ hd, ← tab_odd k hlt ho]
        have ho2 : ((k : Int) % 2) = 1 := by omega
        go_wp2_with (go_at_call 129; refine (double_any _ ht _).mono ?_; rintro e w' ⟨rfl, rfl⟩)
        go_roundw
        case rel => exact ⟨k + 1, by omega, by go_num, by rw [HS.out]⟩
        case measure => simp [intOf]; omega
      · have hx : dbl (tab (k / 2)) = tab k := (tab_even k hlt ho).symm
        have HX := Lib.hid hx
        clear hx
        have ho2 : ((k : Int) % 2) = 0 := by omega
        go_wp2_with (go_at_call 129; refine (double_any _ ht _).mono ?_; rintro e w' ⟨rfl, rfl⟩; rw [HX.out])
        go_roundw
        case rel => exact ⟨k + 1, by omega, by go_num, by rw [HS.out]⟩
        case measure => simp [intOf]; omega
    · obtain rfl : k = 256 := by omega
      have hu : Tryz.prog.underlying 165 = some (.array 256 64) := by kernel_rfl
      have hg1 : ((w.alloc (.cells (cells 0) 165)).alloc (.cells (cells 256) 165)).heap[w.heap.size + 1]? = some (.cells (cells 256) 165 (0, 0)) := heap_alloc2_new w _ _
      have hg0 : ((w.alloc (.cells (cells 0) 165)).alloc (.cells (cells 256) 165)).heap[w.heap.size]? = some (.cells (cells 0) 165 (0, 0)) := heap_alloc2_old w _ _
      have hbel : Below w.heap.size w ((w.alloc (.cells (cells 0) 165)).alloc (.cells (cells 256) 165)) := ((Below.refl _ _).alloc (Nat.le_refl _) _).alloc (by simp) _
      generalize (w.alloc (.cells (cells 0) 165)).alloc (.cells (cells 256) 165) = w2 at hg1 hg0 hbel ⊢
      have hst := store_whole w2 w.heap.size _ 0 256 hg0
      have HG := Lib.hid (And.intro hg1 hu)
      have HF : Hid (Below w.heap.size w (w2.setRow w.heap.size (cells 256)) ∧ (w2.setRow w.heap.size (cells 256)).heap[w.heap.size]? = some (.cells (cells 256) 165 (0, 0))) :=
        ⟨hbel.trans ⟨rfl, rfl, rfl, by simp [World.setRow], fun j hj => setRow_other _ _ _ _ (by omega)⟩, setRow_heap _ _ _ _ _ _ hg0⟩
      generalize w2.setRow w.heap.size (cells 256) = w3 at HF hst
      clear hg1 hg0 hu hz hbel
      go_wp2_with fail
      refine wp_load_row 165 (.tmp 1) rfl (w.heap.size + 1) rfl 165 (cells 256) (0, 0) _ HG.out.1 HG.out.2 rfl (by rw [cells_size]; exact Hi.out) ?_
      go_wp2_with fail
      (try simp only [Exit.inBlock, Exit.then])
      refine bodyPost_ret (v := .agg (cells 256)) ?_ rfl ⟨rfl, HF.out.1⟩
      exact results_cell_row rfl _ _ w.heap.size 165 (cells 256) (0, 0) _ rfl HF.out.2 HG.out.2 rfl (by rw [cells_size]; exact Hi.out)
end Crc
namespace CrcA
open Go.ChangeShapes Go.WideShapes Go.ChangeAt Go.RowKit
open CrcM Crc
theorem idx (d y : Nat) (hd : d < 65536) (hy : y < 256) : bits .xor .u8 ((d : Int) / 256) (y : Int) = ((d / 256 ^^^ y : Nat) : Int) := by
  rw [show (d : Int) / 256 = ((d / 256 : Nat) : Int) by omega]
  exact u8_xor_nat _ _ (by omega) hy
theorem idx_lt (d y : Nat) (hd : d < 65536) (hy : y < 256) : d / 256 ^^^ y < 256 := Nat.xor_lt_two_pow (n := 8) (by omega) hy
theorem step_bits (d y : Nat) : bits .xor .u16 (IntKind.u16.wrap ((d : Int) * 256)) (tab (d / 256 ^^^ y) : Nat) = (CrcM.step d y : Nat) := by
  rw [show (d : Int) * 256 = ((256 * d : Nat) : Int) by omega, wrap16]
  exact u16_xor_nat _ _ (Nat.mod_lt _ (by decide)) (tab_lt _)
theorem add_any (c : Nat) (hc : c < 65536) (a : Option Addr) (cap : Nat) (l : List Nat) (w : World) (h : Row w a l) :
    Calls Tryz.prog 76 #[.int .u16 (c : Int), .slice a l.length cap] w fun e w' => e = .returned (.int .u16 (crc c l : Nat)) ∧ Below w.heap.size w w' := by
  have h1 := h.1
  unfold maxLen at h1
  obtain ⟨hz, hi⟩ := zero_of_info info36
  rw [cells_zero] at hz
  have Hr := Lib.hid h
  have Hi := Lib.hid hi
  clear h hi
  go_enter Tryz.func76, Tryz.ntmps76
  go_wp2_with fail
  refine (table_any _).mono ?_
  rintro e w1 ⟨rfl, hb1⟩
  have hb2 : Below w.heap.size w (w1.alloc (.cells (cells 256) 165)) := hb1.alloc hb1.size _
  have hst : (storeCells ⟨w1.heap.size, 0, none⟩ (cells 256).toList 0).run Tryz.prog (w1.alloc (.cells (cells 0) 165)) = .ok () (w1.alloc (.cells (cells 256) 165)) := by
    rw [store_whole _ _ _ 0 256 (heap_alloc_last w1 _), World.setRow_alloc_new]
  have ht : ∀ j : Nat, j < 256 → (w1.alloc (.cells (cells 256) 165)).cell? ⟨w1.heap.size, j, none⟩ = some (.int .u16 (tab j : Nat)) := fun j hj => by
    rw [World.cell?_alloc_at _ _ _ _ rfl, cells_at _ _ hj, if_pos hj]
  have Ht := Lib.hid ht
  clear ht
  go_wp2_with fail
  have Hr2 := Lib.hid (Hr.out.below hb2)
  have Hb2 := Lib.hid hb2
  generalize w1.alloc (.cells (cells 256) 165) = w2 at Ht Hr2 Hb2 ⊢
  clear Hr hst hb2
  go_loop [0, 11] (fun t i => ∃ k : Nat, k ≤ l.length ∧ i = .int .i64 k ∧ t = .int .u16 (crc c (l.take k) : Nat)) (fun _ i => l.length - (intOf i).toNat)
  case atStart => exact ⟨0, Nat.zero_le _, rfl, rfl⟩
  case round =>
    obtain ⟨k, hk, rfl, rfl⟩ := hrel
    by_cases hlt : k < l.length
    · have hs := CrcM.take_snoc l k hlt
      have hx := Hr2.out.lt k hlt
      obtain ⟨x, rfl, hcl⟩ := Hr2.out.cells hlt
      have hcell := hcl k hlt
      have hd := crc_lt c (l.take k) hc
      have HS : Hid (crc c (l.take (k + 1)) = CrcM.step (crc c (l.take k)) (l.getD k 0)) := by
        show _ = _
        rw [hs, crc_snoc]
      clear hcl hs
      generalize crc c (l.take k) = d at hd HS
      generalize l.getD k 0 = y at hcell hx HS
      have hj := idx d y hd hx
      have hjl := idx_lt d y hd hx
      have hst := step_bits d y
      have htc := Ht.out _ hjl
      rw [← HS.out] at hst
      clear HS
      generalize d / 256 ^^^ y = j at hj hjl hst htc
      have hjn : (j : Int).toNat = j := Int.toNat_natCast j
      have hj2 : (j : Int) < 256 := by omega
      go_wp2
      go_round
      case rel => exact ⟨k + 1, by omega, by go_num, rfl⟩
      case measure => simp [intOf]; omega
    · go_wp2
      go_ret
      have : k = l.length := by omega
      subst this
      exact ⟨by rw [List.take_of_length_le (Nat.le_refl _)]; rfl, Hb2.out⟩
theorem of_any (a : Option Addr) (cap : Nat) (l : List Nat) (w : World) (h : Row w a l) :
    Calls Tryz.prog 27 #[.slice a l.length cap] w fun e w' => e = .returned (.int .u16 (crc 65535 l : Nat)) ∧ Below w.heap.size w w' := by
  have Hr := Lib.hid h
  clear h
  go_enter Tryz.func27, Tryz.ntmps27
  go_wp2_with fail
  refine (add_any 65535 (by decide) _ _ l _ Hr.out).mono ?_
  rintro e w1 ⟨rfl, hb⟩
  go_wp2
  go_ret
  exact ⟨rfl, hb⟩
/-! ### the chapter's example -/
end CrcA
namespace May
open Go.ChangeShapes Go.WideShapes Go.ChangeAt Go.RowKit
open Tab
/-- The document's order. -/
def tabRmay (T : Tab) : Bool :=
  ((((allIn 9999 [T.extend, T.budget, T.start, T.revert, T.least] && allIn 2147483647 [T.window, T.share]) && allIn 255 T.conflict) && allIn 2 T.flash) && T.phases.all Ph.may)
theorem may_lens {T : Tab} (h : 4 < T.groups.length ∨ 16 < T.dets.length ∨ 4 < T.rails.length ∨ 4 < T.buses.length) : tabMay T = false := by
  unfold tabMay listMay
  rcases h with h | h | h | h
  · rw [decide_eq_false (p := (T.groups.length : Int) ≤ 4) (by omega)]; simp
  · rw [decide_eq_false (p := (T.dets.length : Int) ≤ 16) (by omega)]; simp
  · rw [decide_eq_false (p := (T.rails.length : Int) ≤ 4) (by omega)]; simp
  · rw [decide_eq_false (p := (T.buses.length : Int) ≤ 4) (by omega)]; simp
theorem may_group {T : Tab} {g : List Int × List Int} (h : g ∈ T.groups) (hg : groupMay g = false) : tabMay T = false := by
  have : T.groups.all groupMay = false := by rw [List.all_eq_false]; exact ⟨g, h, by simp [hg]⟩
  unfold tabMay listMay
  rw [this]; simp
theorem may_order {T : Tab} (h8 : T.phases.length = 8) (hg : ¬ 4 < T.groups.length) (hd : ¬ 16 < T.dets.length) (hr : ¬ 4 < T.rails.length) (hb : ¬ 4 < T.buses.length) (hall : T.groups.all groupMay = true) :
    tabMay T = (((tabRmay T && T.dets.all Det.may) && T.rails.all Rl.may) && T.buses.all Bs.may) := by
  unfold tabMay listMay tabRmay
  rw [hall, decide_eq_true (p := (T.phases.length : Int) ≤ 8) (by omega), decide_eq_true (p := (T.groups.length : Int) ≤ 4) (by omega), decide_eq_true (p := (T.dets.length : Int) ≤ 16) (by omega), decide_eq_true (p := (T.rails.length : Int) ≤ 4) (by omega), decide_eq_true (p := (T.buses.length : Int) ≤ 4) (by omega)]
  simp only [Bool.true_and]
  generalize T.phases.all Ph.may = p
  generalize T.dets.all Det.may = d
  generalize T.rails.all Rl.may = r
  generalize T.buses.all Bs.may = b
  generalize allIn 255 T.conflict = c
  generalize allIn 2 T.flash = f
  generalize allIn 9999 _ = x
  generalize allIn 2147483647 _ = y
  revert p d r b c f x y
  decide
theorem acc_step {α : Type} {f : α → Bool} {l : List α} {k : Nat} {v : α} {b c : Bool} (h : l[k]? = some v) (hv : f v = c) : (b && (l.take (k + 1)).all f) = ((b && (l.take k).all f) && c) := by
  rw [take_succ' l k v h, List.all_append]; simp [hv, Bool.and_assoc]
theorem acc_end {α : Type} {f : α → Bool} {l : List α} {k : Nat} {b : Bool} (h : ¬ k < l.length) : (b && (l.take k).all f) = (b && l.all f) := by
  rw [List.take_of_length_le (by omega)]
def GAll (l : List Gr) : Prop := l.all (fun v => groupMay v.data) = true
theorem GAll.step {l : List Gr} {k : Nat} {v : Gr} (h : l[k]? = some v) (hk : GAll (l.take k)) (hv : groupMay v.data = true) : GAll (l.take (k + 1)) := all_step (f := fun v : Gr => groupMay v.data) h hk hv
theorem GAll.fin {l : List Gr} {k : Nat} (hk : GAll (l.take k)) (h : ¬ k < l.length) : l.all (fun v => groupMay v.data) = true := all_end (f := fun v : Gr => groupMay v.data) hk h
theorem infoT : (Tryz.prog.info? 31).map (·.size) = some 131 := by kernel_rfl
theorem rmay_any (T : Tab) (h : Hd) (w : World) (k : IsTab w h T) :
    Calls Tryz.prog 28 #[.agg (T.cells h).toArray] w fun e w' => e = .returned (.bool (tabMay T)) ∧ Below w.heap.size w w' := by
  have C := Lib.hid (cells_ok k)
  have L8 := Lib.hid k.ph
  have Lc := Lib.hid k.cf
  have Lf := Lib.hid k.fl
  have Kd := (k.dets).len
  have Kr := (k.rails).len
  have Kb := (k.buses).len
  generalize (T.cells h).toArray = cs at C ⊢
  have hsz := C.out.size
  obtain ⟨gs, hgd, hgr⟩ := k.groups
  have Kg := hgr.1.len
  unfold maxLen at Kd Kr Kb Kg
  have Hgr := Lib.hid hgr
  clear hgr
  have S0 := Lib.hid (St.box (cs := cs) k)
  clear k
  have Hgd := Lib.hid hgd
  have hgl : T.groups.length = gs.length := by rw [← hgd, List.length_map]
  have Hgl := Lib.hid hgl
  clear hgd
  clear hgl
  go_enter Tryz.func28, Tryz.ntmps28
  go_upto_region 1 with fail
  generalize hw1 : w.alloc (.cells cs 31) = w1 at S0 ⊢
  clear hw1
  have c104 := S0.out.cell C.out.g
  rw [Hgl.out] at c104
  have c113 := S0.out.cell C.out.d
  have c114 := S0.out.cell C.out.r
  have c115 := S0.out.cell C.out.b
  clear hsz
  by_cases hG : 4 < gs.length
  · go_wp2
    go_ret
    exact ⟨ret_bool (may_lens (.inl (by rw [Hgl.out]; omega))).symm, S0.out.bel⟩
  by_cases hD : 16 < T.dets.length
  · go_wp2
    go_ret
    exact ⟨ret_bool (may_lens (.inr (.inl (by omega)))).symm, S0.out.bel⟩
  by_cases hR : 4 < T.rails.length
  · go_wp2
    go_ret
    exact ⟨ret_bool (may_lens (.inr (.inr (.inl (by omega))))).symm, S0.out.bel⟩
  by_cases hB : 4 < T.buses.length
  · go_wp2
    go_ret
    exact ⟨ret_bool (may_lens (.inr (.inr (.inr (by omega))))).symm, S0.out.bel⟩
  have HG := Lib.hid (show ¬ 4 < T.groups.length by rw [Hgl.out]; exact hG)
  have HD := Lib.hid hD
  have HR := Lib.hid hR
  have HB := Lib.hid hB
  have dG : decide ((4 : Int) < (gs.length : Int)) = false := decide_eq_false (by omega)
  have dD : decide ((16 : Int) < (T.dets.length : Int)) = false := decide_eq_false (by omega)
  have dR : decide ((4 : Int) < (T.rails.length : Int)) = false := decide_eq_false (by omega)
  have dB : decide ((4 : Int) < (T.buses.length : Int)) = false := decide_eq_false (by omega)
  clear hG hD hR hB
  go_upto_region 3 with fail
  clear c104 c113 c114 c115 dG dD dR dB
  go_cut [3] from 32 (fun t3 wx => t3 = .bool (((allIn 9999 [T.extend, T.budget, T.start, T.revert, T.least] && allIn 2147483647 [T.window, T.share]) && allIn 255 T.conflict) && allIn 2 T.flash) ∧ St w w.heap.size cs h T wx)
  case first =>
    have c116 := S0.out.cell C.out.extend
    have c117 := S0.out.cell C.out.budget
    have c118 := S0.out.cell C.out.start
    have c119 := S0.out.cell C.out.revert
    have c120 := S0.out.cell C.out.least
    go_wp2_with fail
    refine (times_any _ _ [T.extend, T.budget, T.start, T.revert, T.least] _ (row_new _ _ [T.extend, T.budget, T.start, T.revert, T.least] 5 rfl (by decide) _ rfl)).mono ?_
    rintro e w2 ⟨rfl, hw⟩
    have hb2 : Below w1.heap.size w1 w2 := hw ▸ (Below.refl _ _).alloc (Nat.le_refl _) _
    have S2 := Lib.hid (S0.out.step hb2)
    clear hb2 hw c116 c117 c118 c119 c120
    generalize hv : allIn 9999 [T.extend, T.budget, T.start, T.revert, T.least] = b1
    have V1 := Lib.hid hv
    clear hv
    cases b1
    · go_wp2_with fail
      go_meet
      exact ⟨by simp only [V1.out, Bool.true_and, Bool.false_and, Bool.and_false], S2.out⟩
    have c129 := S2.out.cell C.out.window
    have c130 := S2.out.cell C.out.share
    go_wp2_with fail
    refine (upto_any 2147483647 _ _ [T.window, T.share] _ (row_new _ _ [T.window, T.share] 2 rfl (by decide) _ rfl)).mono ?_
    rintro e w3 ⟨rfl, hw⟩
    have hb3 : Below w2.heap.size w2 w3 := hw ▸ (Below.refl _ _).alloc (Nat.le_refl _) _
    have S3 := Lib.hid (S2.out.step hb3)
    clear hb3 hw c129 c130
    generalize hv : allIn 2147483647 [T.window, T.share] = b2
    have V2 := Lib.hid hv
    clear hv
    cases b2
    · go_wp2_with fail
      go_meet
      exact ⟨by simp only [V1.out, V2.out, Bool.true_and, Bool.false_and, Bool.and_false], S3.out⟩
    go_wp2_with fail
    refine (upto_len 255 (some ⟨w.heap.size, 105, none⟩) 8 T.conflict 8 Lc.out _ (ints_in S3.out.blk 105 8 _ C.out.conflict Lc.out (by decide))).mono ?_
    rintro e w4 ⟨rfl, rfl⟩
    generalize hv : allIn 255 T.conflict = b3
    have V3 := Lib.hid hv
    clear hv
    cases b3
    · go_wp2_with fail
      go_meet
      exact ⟨by simp only [V1.out, V2.out, V3.out, Bool.true_and, Bool.false_and, Bool.and_false], S3.out⟩
    go_wp2_with fail
    refine (upto_len 2 (some ⟨w.heap.size, 121, none⟩) 8 T.flash 8 Lf.out _ (ints_in S3.out.blk 121 8 _ C.out.flash Lf.out (by decide))).mono ?_
    rintro e w5 ⟨rfl, rfl⟩
    go_wp2_with fail
    go_meet
    exact ⟨by simp only [V1.out, V2.out, V3.out, Bool.true_and], S3.out⟩
  case rest =>
  obtain ⟨rfl, hs⟩ := hcut
  clear S0
  generalize hok : (((allIn 9999 [T.extend, T.budget, T.start, T.revert, T.least] && allIn 2147483647 [T.window, T.share]) && allIn 255 T.conflict) && allIn 2 T.flash) = ok
  have HOK := Lib.hid hok
  have S1 := Lib.hid hs
  clear hok hs
  go_wp2_with fail
  go_loopw [3, 4] (fun b i wr => ∃ q : Nat, q ≤ 8 ∧ i = .int .i64 q ∧ b = .bool (ok && (T.phases.take q).all Ph.may) ∧ St w w.heap.size cs h T wr) (fun _ i _ => 8 - (intOf i).toNat)
  case atStart => exact ⟨0, by omega, rfl, by simp, S1.out⟩
  case round =>
    clear S1
    obtain ⟨q, hq, rfl, rfl, hs⟩ := hrel
    have S1 := Lib.hid hs
    clear hs
    by_cases hlt : q < 8
    · have hv : T.phases[q]? = some (T.phases[q]'(by rw [L8.out]; exact hlt)) := List.getElem?_eq_getElem _
      generalize T.phases[q]'(by rw [L8.out]; exact hlt) = v at hv
      have HV := Lib.hid hv
      obtain ⟨x, hx, hc⟩ := (phases_in S1.out.blk C.out L8.out).at hv
      obtain rfl := Option.some.inj hx
      have HC := Lib.hid (show Lies wr ⟨w.heap.size, q * 13, none⟩ v.cells by have := hc; rwa [Addr.add_mid, Nat.zero_add] at this)
      clear hv hc hx
      generalize hacc : (ok && (T.phases.take q).all Ph.may) = acc
      have HA := Lib.hid hacc
      clear hacc
      cases acc
      · go_wp2
        go_roundw
        case rel => exact ⟨q + 1, by omega, by go_num, by rw [acc_step HV.out rfl, HA.out]; rfl, S1.out⟩
        case measure => simp [intOf]; omega
      · go_wp2_with (first | (refine Row.wpList_load_g 23 _ rfl (by first | rfl | go_simp) ⟨w.heap.size, q * 13, none⟩ rfl v.cells _ HC.out Tryz.underlying23 rfl infoP ?_))
        refine (rphase_any v _).mono ?_
        rintro e w2 ⟨rfl, hb2⟩
        have S2 := Lib.hid (S1.out.step hb2)
        clear hb2
        go_wp2
        go_roundw
        case rel => exact ⟨q + 1, by omega, by go_num, by rw [acc_step HV.out rfl, HA.out, Bool.true_and], S2.out⟩
        case measure => simp [intOf]; omega
    · have hend : (ok && (T.phases.take q).all Ph.may) = (ok && T.phases.all Ph.may) := acc_end (by rw [L8.out]; omega)
      rw [hend]
      generalize hok1 : (ok && T.phases.all Ph.may) = ok1
      have HOK1 := Lib.hid hok1
      clear hok1 hend
      go_wp2_with fail
      go_loopw [5] (fun i wr => ∃ q : Nat, q ≤ gs.length ∧ i = .int .i64 q ∧ GAll (gs.take q) ∧ St w w.heap.size cs h T wr) (fun i _ => gs.length - (intOf i).toNat)
      case atStart => exact ⟨0, by omega, rfl, (rfl : GAll []), S1.out⟩
      case round =>
        clear S1
        obtain ⟨q, hq, rfl, hall, hs⟩ := hrel
        have S1 := Lib.hid hs
        have Hall := Lib.hid hall
        clear hs hall
        have c104 := S1.out.cell C.out.g
        rw [Hgl.out] at c104
        by_cases hlt : q < gs.length
        · have hv := List.getElem?_eq_getElem hlt
          generalize gs[q] = v at hv
          obtain ⟨x, hx, hc⟩ := (Hgr.out.1.below S1.out.bel).at hv
          have hok := Hgr.out.2 v (List.mem_of_getElem? hv)
          have HV := Lib.hid hv
          obtain ⟨l0, l1, ⟨a0, cap0⟩, ⟨a1, cap1⟩⟩ := v
          have HC := Lib.hid hc
          have H0 := Lib.hid hok.1
          have H1 := Lib.hid hok.2
          have K0 := hok.1.len
          have K1 := hok.2.len
          unfold maxLen at K0 K1
          clear hv hc hok
          go_wp2_with fail
          go_loopw [6] (fun i wr => ∃ r : Nat, r ≤ 2 ∧ i = .int .i64 r ∧ (0 < r → rowMay l0 = true) ∧ (1 < r → rowMay l1 = true) ∧ St w w.heap.size cs h T wr) (fun i _ => 2 - (intOf i).toNat)
          case atStart => exact ⟨0, by omega, rfl, fun h => absurd h (by omega), fun h => absurd h (by omega), S1.out⟩
          case round =>
            clear S1 c104
            obtain ⟨r, hr, rfl, hr0, hr1, hs⟩ := hrel
            have S1 := Lib.hid hs
            have R0 := Lib.hid hr0
            have R1 := Lib.hid hr1
            clear hs hr0 hr1
            have c104 := S1.out.cell C.out.g
            simp only [Sl.val, Hgl.out, hx] at c104
            obtain ⟨x', hx', hc⟩ := (Hgr.out.1.below S1.out.bel).at HV.out
            obtain rfl : x' = x := Option.some.inj (hx'.symm.trans hx)
            have e0 := hc 0 _ rfl
            have e1 := hc 1 _ rfl
            rw [add_zero] at e0
            rw [add_one] at e1
            clear hc hx'
            have hr2 : r = 0 ∨ r = 1 ∨ r = 2 := by omega
            rcases hr2 with rfl | rfl | rfl
            · by_cases h8 : 8 < l0.length
              · go_wp2
                go_ret
                exact ⟨ret_bool (may_group (T := T) (g := (l0, l1)) (by rw [← Hgd.out]; exact List.mem_map.2 ⟨_, List.mem_of_getElem? HV.out, rfl⟩) (by unfold groupMay rowMay; simp only []; rw [decide_eq_false (p := l0.length ≤ 8) (by omega)]; simp)).symm, S1.out.bel⟩
              · have H8 := Lib.hid h8
                go_wp2_with (go_at_call 78; refine (upto_any 7 a0 cap0 l0 _ (H0.out.below S1.out.bel)).mono ?_; rintro e w2 ⟨rfl, rfl⟩; generalize hrow : allIn 7 l0 = b; have HR2 := Lib.hid hrow; clear hrow; cases b)
                · go_wp2
                  go_ret
                  exact ⟨ret_bool (may_group (T := T) (g := (l0, l1)) (by rw [← Hgd.out]; exact List.mem_map.2 ⟨_, List.mem_of_getElem? HV.out, rfl⟩) (by unfold groupMay rowMay; simp only []; rw [HR2.out]; simp)).symm, S1.out.bel⟩
                · go_wp2
                  go_roundw
                  case rel => exact ⟨0 + 1, by omega, by go_num, fun _ => by unfold rowMay; rw [HR2.out, decide_eq_true (by have := H8.out; omega)]; rfl, fun h => absurd h (by omega), S1.out⟩
                  case measure => simp [intOf]
            · by_cases h8 : 8 < l1.length
              · go_wp2
                go_ret
                exact ⟨ret_bool (may_group (T := T) (g := (l0, l1)) (by rw [← Hgd.out]; exact List.mem_map.2 ⟨_, List.mem_of_getElem? HV.out, rfl⟩) (by unfold groupMay rowMay; simp only []; rw [decide_eq_false (p := l1.length ≤ 8) (by omega)]; simp)).symm, S1.out.bel⟩
              · have H8 := Lib.hid h8
                go_wp2_with (go_at_call 78; refine (upto_any 7 a1 cap1 l1 _ (H1.out.below S1.out.bel)).mono ?_; rintro e w2 ⟨rfl, rfl⟩; generalize hrow : allIn 7 l1 = b; have HR2 := Lib.hid hrow; clear hrow; cases b)
                · go_wp2
                  go_ret
                  exact ⟨ret_bool (may_group (T := T) (g := (l0, l1)) (by rw [← Hgd.out]; exact List.mem_map.2 ⟨_, List.mem_of_getElem? HV.out, rfl⟩) (by unfold groupMay rowMay; simp only []; rw [HR2.out]; simp)).symm, S1.out.bel⟩
                · go_wp2
                  go_roundw
                  case rel => exact ⟨1 + 1, by omega, by go_num, fun _ => R0.out (by omega), fun _ => by unfold rowMay; rw [HR2.out, decide_eq_true (by have := H8.out; omega)]; rfl, S1.out⟩
                  case measure => simp [intOf]
            · have Hrow := Lib.hid (And.intro (R0.out (by omega)) (R1.out (by omega)))
              go_wp2
              go_roundw
              case rel => exact ⟨q + 1, by omega, by go_num, (Hall.out.step HV.out (by show (rowMay l0 && rowMay l1) = true; rw [Hrow.out.1, Hrow.out.2]; rfl)), S1.out⟩
              case measure => simp [intOf]; omega
        · have hall2 : T.groups.all groupMay = true := by
            have := Hall.out.fin hlt
            rw [← Hgd.out, List.all_map]; exact this
          have HALL := Lib.hid hall2
          clear hall2 Hall
          have c113 := S1.out.cell C.out.d
          go_wp2_with fail
          go_loopw [3, 7] (fun b i wr => ∃ q : Nat, q ≤ T.dets.length ∧ i = .int .i64 q ∧ b = .bool (ok1 && (T.dets.take q).all Det.may) ∧ St w w.heap.size cs h T wr) (fun _ i _ => T.dets.length - (intOf i).toNat)
          case atStart => exact ⟨0, by omega, rfl, by simp, S1.out⟩
          case round =>
            clear S1
            obtain ⟨q, hq, rfl, rfl, hs⟩ := hrel
            have S1 := Lib.hid hs
            clear hs
            have c113 := S1.out.cell C.out.d
            by_cases hlt : q < T.dets.length
            · have hv := List.getElem?_eq_getElem hlt
              generalize T.dets[q] = v at hv
              obtain ⟨x, hx, hc⟩ := (S1.out.tab.dets).at hv
              simp only [Sl.val, hx] at c113
              have HV := Lib.hid hv
              have HC := Lib.hid hc
              clear hv hc
              generalize hacc : (ok1 && (T.dets.take q).all Det.may) = acc
              have HA := Lib.hid hacc
              clear hacc
              cases acc
              · go_wp2
                go_roundw
                case rel => exact ⟨q + 1, by omega, by go_num, by rw [acc_step HV.out rfl, HA.out]; rfl, S1.out⟩
                case measure => simp [intOf]; omega
              · go_wp2_with (first | (refine Row.wpList_load_g 80 _ rfl (by first | rfl | go_simp) (x.add (q * 7)) rfl v.cells _ HC.out Tryz.underlying80 rfl infoD ?_))
                refine (rdetector_any v _).mono ?_
                rintro e w2 ⟨rfl, hb2⟩
                have S2 := Lib.hid (S1.out.step hb2)
                clear hb2
                go_wp2
                go_roundw
                case rel => exact ⟨q + 1, by omega, by go_num, by rw [acc_step HV.out rfl, HA.out, Bool.true_and], S2.out⟩
                case measure => simp [intOf]; omega
            · have hend : (ok1 && (T.dets.take q).all Det.may) = (ok1 && T.dets.all Det.may) := acc_end hlt
              rw [hend]
              generalize hok1 : (ok1 && T.dets.all Det.may) = ok2
              have HOK2 := Lib.hid hok1
              clear hok1 hend
              have c114 := S1.out.cell C.out.r
              go_wp2_with fail
              go_loopw [3, 8] (fun b i wr => ∃ q : Nat, q ≤ T.rails.length ∧ i = .int .i64 q ∧ b = .bool (ok2 && (T.rails.take q).all Rl.may) ∧ St w w.heap.size cs h T wr) (fun _ i _ => T.rails.length - (intOf i).toNat)
              case atStart => exact ⟨0, by omega, rfl, by simp, S1.out⟩
              case round =>
                clear S1
                obtain ⟨q, hq, rfl, rfl, hs⟩ := hrel
                have S1 := Lib.hid hs
                clear hs
                have c114 := S1.out.cell C.out.r
                by_cases hlt : q < T.rails.length
                · have hv := List.getElem?_eq_getElem hlt
                  generalize T.rails[q] = v at hv
                  obtain ⟨x, hx, hc⟩ := (S1.out.tab.rails).at hv
                  simp only [Sl.val, hx] at c114
                  have HV := Lib.hid hv
                  have HC := Lib.hid hc
                  clear hv hc
                  generalize hacc : (ok2 && (T.rails.take q).all Rl.may) = acc
                  have HA := Lib.hid hacc
                  clear hacc
                  cases acc
                  · go_wp2
                    go_roundw
                    case rel => exact ⟨q + 1, by omega, by go_num, by rw [acc_step HV.out rfl, HA.out]; rfl, S1.out⟩
                    case measure => simp [intOf]; omega
                  · go_wp2_with (first | (refine Row.wpList_load_g 84 _ rfl (by first | rfl | go_simp) (x.add (q * 11)) rfl v.cells _ HC.out Tryz.underlying84 rfl infoR ?_))
                    refine (rrail_any v _).mono ?_
                    rintro e w2 ⟨rfl, hb2⟩
                    have S2 := Lib.hid (S1.out.step hb2)
                    clear hb2
                    go_wp2
                    go_roundw
                    case rel => exact ⟨q + 1, by omega, by go_num, by rw [acc_step HV.out rfl, HA.out, Bool.true_and], S2.out⟩
                    case measure => simp [intOf]; omega
                · have hend : (ok2 && (T.rails.take q).all Rl.may) = (ok2 && T.rails.all Rl.may) := acc_end hlt
                  rw [hend]
                  generalize hok1 : (ok2 && T.rails.all Rl.may) = ok3
                  have HOK3 := Lib.hid hok1
                  clear hok1 hend
                  have c115 := S1.out.cell C.out.b
                  go_wp2_with fail
                  go_loopw [3, 9] (fun b i wr => ∃ q : Nat, q ≤ T.buses.length ∧ i = .int .i64 q ∧ b = .bool (ok3 && (T.buses.take q).all Bs.may) ∧ St w w.heap.size cs h T wr) (fun _ i _ => T.buses.length - (intOf i).toNat)
                  case atStart => exact ⟨0, by omega, rfl, by simp, S1.out⟩
                  case round =>
                    clear S1
                    obtain ⟨q, hq, rfl, rfl, hs⟩ := hrel
                    have S1 := Lib.hid hs
                    clear hs
                    have c115 := S1.out.cell C.out.b
                    by_cases hlt : q < T.buses.length
                    · have hv := List.getElem?_eq_getElem hlt
                      generalize T.buses[q] = v at hv
                      obtain ⟨x, hx, hc⟩ := (S1.out.tab.buses).at hv
                      simp only [Sl.val, hx] at c115
                      have HV := Lib.hid hv
                      have e0 := hc 0 _ rfl
                      have e1 := hc 1 _ rfl
                      rw [add_zero] at e0
                      rw [add_one] at e1
                      obtain ⟨set, lock⟩ := v
                      have HC := Lib.hid hc
                      clear hv hc
                      generalize hacc : (ok3 && (T.buses.take q).all Bs.may) = acc
                      have HA := Lib.hid hacc
                      clear hacc
                      cases acc
                      · go_wp2
                        go_roundw
                        case rel => exact ⟨q + 1, by omega, by go_num, by rw [acc_step HV.out rfl, HA.out]; rfl, S1.out⟩
                        case measure => simp [intOf]; omega
                      · go_wp2_with fail
                        refine (upto_any 255 _ _ [set] _ (row_new _ _ [set] 1 rfl (by decide) _ rfl)).mono ?_
                        rintro e w2 ⟨rfl, hw⟩
                        have hb2 : Below wr.heap.size wr w2 := hw ▸ (Below.refl _ _).alloc (Nat.le_refl _) _
                        clear hw
                        have S2 := Lib.hid (S1.out.step hb2)
                        have HC2 := Lib.hid (HC.out.below hb2)
                        clear hb2 e0 e1 c115
                        generalize hv : allIn 255 [set] = b1
                        have V1 := Lib.hid hv
                        clear hv
                        cases b1
                        · go_wp2
                          go_roundw
                          case rel => exact ⟨q + 1, by omega, by go_num, by rw [acc_step HV.out rfl, HA.out, Bool.true_and]; unfold Bs.may; rw [V1.out]; rfl, S2.out⟩
                          case measure => simp [intOf]; omega
                        · have c115 := S2.out.cell C.out.b
                          simp only [Sl.val, hx] at c115
                          have e0 := HC2.out 0 _ rfl
                          have e1 := HC2.out 1 _ rfl
                          rw [add_zero] at e0
                          rw [add_one] at e1
                          go_wp2_with fail
                          refine (times_any _ _ [lock] _ (row_new _ _ [lock] 1 rfl (by decide) _ rfl)).mono ?_
                          rintro e w3 ⟨rfl, hw⟩
                          have hb3 : Below w2.heap.size w2 w3 := hw ▸ (Below.refl _ _).alloc (Nat.le_refl _) _
                          clear hw
                          have S3 := Lib.hid (S2.out.step hb3)
                          clear hb3 e0 e1 c115
                          go_wp2
                          go_roundw
                          case rel => exact ⟨q + 1, by omega, by go_num, by rw [acc_step HV.out rfl, HA.out, Bool.true_and]; unfold Bs.may; rw [V1.out, Bool.true_and], S3.out⟩
                          case measure => simp [intOf]; omega
                    · have hend : (ok3 && (T.buses.take q).all Bs.may) = (ok3 && T.buses.all Bs.may) := acc_end hlt
                      rw [hend]
                      go_wp2
                      go_ret
                      exact ⟨ret_bool (by rw [may_order L8.out HG.out HD.out HR.out HB.out HALL.out, ← HOK3.out, ← HOK2.out, ← HOK1.out, ← HOK.out]; rfl), S1.out.bel⟩
end May
namespace Po
open Go Go.RowKit Go.ChangeShapes
open Tab
open Put (low lim)
open Go.Proofs.YtpgoafbkjmmedaaGreat.B (Own own_row)
theorem own_mono {B B' : Nat} {w : World} {v : Value} {l : List Nat} (h : Own B' w v l) (hb : B ≤ B') : Own B w v l := by
  refine ⟨h.1, ?_⟩
  rcases h.2 with h0 | ⟨g, cap, cur, h1, h2, h3⟩
  · exact .inl h0
  · exact .inr ⟨g, cap, cur, h1, by omega, h3⟩
theorem head_low : low (lim 3 8) 5784065 = [88, 66, 1] := by decide +kernel
theorem enc_bad {T : Tab} {hd : Hd} {w : World} (ht : IsTab w hd T) (hm : May.tabMay T = false) :
    Calls Tryz.prog 11 #[.agg (T.cells hd).toArray] w fun e w' => e = .returned (.tuple #[.slice none 0 0, I 4]) ∧ Below w.heap.size w w' := by
  have hmf : ∀ (fn : Fn) (first cap : Array Value) (w : World), (Instr.makeFunc fn first cap).run Tryz.prog w = .ok (.func fn first cap) w := fun _ _ _ _ => rfl
  have C := cells_ok ht
  have IA : Hid ((Tryz.prog.info? 31).map (·.size) = some (T.cells hd).length) := Lib.hid (by have := C.size; rw [List.size_toArray] at this; rw [this]; exact May.infoT)
  have MY0 : Hid (∀ W, Below w.heap.size w W → Calls Tryz.prog 23 #[.agg (T.cells hd).toArray] W fun e w' => e = .returned (.bool false) ∧ Below W.heap.size W w') := Lib.hid (fun W hb => by rw [← hm]; exact May.may_any T hd W (ht.below hb))
  generalize hcc : T.cells hd = c at IA MY0 ⊢
  have h0 := (Below.refl w.heap.size w).alloc (Nat.le_refl _) (.cells c.toArray 31)
  have h1 := h0.alloc h0.size (.cells #[I 0] 35)
  have hg0 := heap_alloc_new w (.cells c.toArray 31)
  have hg1 := heap_alloc_new (w.alloc (.cells c.toArray 31)) (.cells #[I 0] 35)
  have hs0 : (w.alloc (.cells c.toArray 31)).heap.size = w.heap.size + 1 := by simp
  have hg2 : ((w.alloc (.cells c.toArray 31)).alloc (.cells #[I 0] 35)).heap[w.heap.size]? = some (.cells c.toArray 31 (0, 0)) := by
    rw [Below.heap_alloc _ _ _ (by rw [hs0]; omega)]; exact hg0
  rw [hs0] at hg1
  go_enter_defers Tryz.func11, Tryz.ntmps11
  go_upto_region 2 with fail
  generalize World.alloc (World.alloc w _) _ = v at h1 hg1 hg2 ⊢
  have MY : Hid (∀ W, Below v.heap.size v W → Calls Tryz.prog 23 #[.agg c.toArray] W fun e w' => e = .returned (.bool false) ∧ Below W.heap.size W w') := Lib.hid (fun W hb => MY0.out W (h1.trans (hb.mono h1.size)))
  have HB0 := Lib.hid h1
  have HE := Lib.hid hg1
  have HTB := Lib.hid hg2
  have GE : Hid (w.heap.size ≤ w.heap.size + 1) := Lib.hid (by omega)
  generalize hge : w.heap.size + 1 = ge at HE GE ⊢
  generalize hgt : w.heap.size = gt at HE HTB GE hge ⊢
  have HGT := Lib.hid hgt
  clear h0 h1 hg0 hg1 hg2 hs0 hge hgt MY0
  go_wp2_with (refine Row.wpList_load_g 31 _ rfl (by first | rfl | go_simp) ⟨gt, 0, none⟩ rfl c _ (by have := Row.lies_of_block HTB.out; simpa using this) Tryz.underlying31 rfl IA.out ?_)
  refine (MY.out v (Below.refl _ _)).mono ?_
  rintro e v1 ⟨rfl, hb⟩
  go_wp2_with fail
  refine (fail_any 4 0 _).mono ?_
  rintro e v2 ⟨rfl, rfl⟩
  have hE := (hb.block ge (Array.getElem?_eq_some_iff.1 HE.out).1).trans HE.out
  have hB := HB0.out.trans (hb.mono HB0.out.size)
  clear hb
  go_wp2
  refine leaves_cons (f := 21) (args := #[.pointer (some ⟨ge, 0, none⟩)]) (by simp) (by simp [go_sem]) ?_
  refine (enc_panic ge 0 4 0 v1 hE).mono ?_
  rintro e u' w'' ⟨rfl, rfl, w1, hb1, rfl⟩
  have hc := setRow_heap w1 ge #[I 0] #[I 4] _ _ ((hb1.block ge (Array.getElem?_eq_some_iff.1 hE).1).trans hE)
  have hBB := below_setRow (hB.trans (hb1.mono hB.size)) (show w.heap.size ≤ ge by have := GE.out; have := HGT.out; omega) #[I 4]
  have hcell : (w1.setRow ge #[I 4]).cell? ⟨ge, 0, none⟩ = some (I 4) := by rw [cell_of_row _ _ _ _ _ _ hc]; rfl
  simp [Leaves, settle, results, Tryz.results11, go_sem, hcell]
  exact hBB
end Po
namespace Po
open Go Go.RowKit Go.ChangeShapes
open Tab
open Put (low lim)
open Go.Proofs.YtpgoafbkjmmedaaGreat.B (Own own_row)
theorem enc_good {T : Tab} {hd : Hd} {w : World} (ht : IsTab w hd T) (hm : May.tabMay T = true) :
    Calls Tryz.prog 11 #[.agg (T.cells hd).toArray] w fun e w' => ∃ v, e = .returned (.tuple #[v, I 0]) ∧ Own w.heap.size w' v (Cd.sealB (Cd.bodyB T)) ∧ Below w.heap.size w w' := by
  have hmf : ∀ (fn : Fn) (first cap : Array Value) (w : World), (Instr.makeFunc fn first cap).run Tryz.prog w = .ok (.func fn first cap) w := fun _ _ _ _ => rfl
  have few := Cd.few_of ht hm
  have PS : Hid (∀ (V0 : World) (wb tb k : Nat) (l : List Nat) (W : World), Wp w V0 wb tb (T.cells hd).toArray l (k + stepsT T) W → w.heap.size ≤ tb → Calls Tryz.prog 26 #[wif wb, .pointer (some ⟨tb, 0, none⟩)] W fun e W' => e = .returned (.tuple #[]) ∧ Wp w V0 wb tb (T.cells hd).toArray (l ++ Cd.itemsB T) k W') := Lib.hid (fun V0 wb tb k l W h htb => wpass ht few.light h htb)
  have LN := Lib.hid few.len
  have ST := Lib.hid few.steps
  have B8 : Hid (∀ x ∈ Cd.bodyB T, x < 256) := Lib.hid (Cd.B8.body T)
  have BD : Hid ([88, 66, 1] ++ Cd.itemsB T = Cd.bodyB T) := Lib.hid rfl
  clear few
  have C := cells_ok ht
  have IA : Hid ((Tryz.prog.info? 31).map (·.size) = some (T.cells hd).length) := Lib.hid (by have := C.size; rw [List.size_toArray] at this; rw [this]; exact May.infoT)
  have MY0 : Hid (∀ W, Below w.heap.size w W → Calls Tryz.prog 23 #[.agg (T.cells hd).toArray] W fun e w' => e = .returned (.bool true) ∧ Below W.heap.size W w') := Lib.hid (fun W hb => by rw [← hm]; exact May.may_any T hd W (ht.below hb))
  generalize hcc : T.cells hd = c at IA MY0 ⊢
  have h0 := (Below.refl w.heap.size w).alloc (Nat.le_refl _) (.cells c.toArray 31)
  have h1 := h0.alloc h0.size (.cells #[I 0] 35)
  have hg0 := heap_alloc_new w (.cells c.toArray 31)
  have hg1 := heap_alloc_new (w.alloc (.cells c.toArray 31)) (.cells #[I 0] 35)
  have hs0 : (w.alloc (.cells c.toArray 31)).heap.size = w.heap.size + 1 := by simp
  have hg2 : ((w.alloc (.cells c.toArray 31)).alloc (.cells #[I 0] 35)).heap[w.heap.size]? = some (.cells c.toArray 31 (0, 0)) := by
    rw [Below.heap_alloc _ _ _ (by rw [hs0]; omega)]; exact hg0
  rw [hs0] at hg1
  go_enter_defers Tryz.func11, Tryz.ntmps11
  go_upto_region 2 with fail
  generalize World.alloc (World.alloc w _) _ = v at h1 hg1 hg2 ⊢
  have MY : Hid (∀ W, Below v.heap.size v W → Calls Tryz.prog 23 #[.agg c.toArray] W fun e w' => e = .returned (.bool true) ∧ Below W.heap.size W w') := Lib.hid (fun W hb => MY0.out W (h1.trans (hb.mono h1.size)))
  have HB0 := Lib.hid h1
  have HE := Lib.hid hg1
  have HTB := Lib.hid hg2
  have GE : Hid (w.heap.size ≤ w.heap.size + 1) := Lib.hid (by omega)
  generalize hge : w.heap.size + 1 = ge at HE GE ⊢
  generalize hgt : w.heap.size = gt at HE HTB GE hge ⊢
  have HGT := Lib.hid hgt
  clear h0 h1 hg0 hg1 hg2 hs0 hge hgt MY0
  obtain ⟨body, hbody⟩ : ∃ x, x = Cd.bodyB T := ⟨_, rfl⟩
  rw [← hbody] at LN B8 BD
  have HBODY := Lib.hid hbody
  clear hbody
  generalize Cd.itemsB T = items at PS BD
  generalize stepsT T = st at PS ST
  rw [hcc] at PS
  go_wp2_with (refine Row.wpList_load_g 31 _ rfl (by first | rfl | go_simp) ⟨gt, 0, none⟩ rfl c _ (by have := Row.lies_of_block HTB.out; simpa using this) Tryz.underlying31 rfl IA.out ?_)
  refine (MY.out v (Below.refl _ _)).mono ?_
  rintro e v1 ⟨rfl, hb⟩
  have HB1 := Lib.hid hb
  clear hb
  go_wp2_with fail
  refine (Put.put_any none 0 [] 3 5784065 v1 (Go.Proofs.YtpgoafbkjmmedaaGreat.B.row_nil _ _ _ rfl) (by simp)).mono ?_
  rintro e v2 ⟨pv, rfl, hown, hb2⟩
  rw [List.nil_append, head_low] at hown
  obtain ⟨pa, pn, pc, rfl⟩ : ∃ a n c, pv = .slice a n c := by rcases hown.2 with ⟨rfl, _⟩ | ⟨g, cap, cur, rfl, _⟩ <;> exact ⟨_, _, _, rfl⟩
  go_upto_region 5 with fail
  have hb12 := HB1.out.trans (hb2.mono HB1.out.size)
  have hb3 : Below v2.heap.size v2 (v2.alloc (.cells #[.slice pa pn pc] 61)) := (Below.refl _ _).alloc (Nat.le_refl _) _
  have hn3 := heap_alloc_new v2 (.cells #[.slice pa pn pc] 61)
  have hw : Wp w (v2.alloc (.cells #[.slice pa pn pc] 61)) v2.heap.size gt c.toArray [88, 66, 1] (0 + st) (v2.alloc (.cells #[.slice pa pn pc] 61)) := by
    have hv : w.heap.size ≤ v.heap.size := HB0.out.size
    have hv1 := HB1.out.size
    have hv2 := hb2.size
    refine ⟨⟨by have := ST.out; simp only [List.length_cons, List.length_nil]; omega, by omega, .slice pa pn pc, hn3, ?_⟩, HB0.out.trans ((hb12.trans (hb3.mono (by omega))).mono hv), ?_, fun _ _ _ _ hj _ => hj⟩
    · exact own_mono (Go.Proofs.YtpgoafbkjmmedaaGreat.B.own_below hown hb3) (by omega)
    · have h5 := HTB.out
      have h6 := (hb12.block gt (Array.getElem?_eq_some_iff.1 h5).1).trans h5
      exact (hb3.block gt (Array.getElem?_eq_some_iff.1 h6).1).trans h6
  have he3 : (v2.alloc (.cells #[.slice pa pn pc] 61)).heap[ge]? = some (.cells #[I 0] 35 (0, 0)) := by
    have h5 := HE.out
    have h6 := (hb12.block ge (Array.getElem?_eq_some_iff.1 h5).1).trans h5
    exact (hb3.block ge (Array.getElem?_eq_some_iff.1 h6).1).trans h6
  generalize v2.alloc (.cells #[.slice pa pn pc] 61) = v3 at hw he3 ⊢
  generalize v2.heap.size = wb at hw ⊢
  have HE3 := Lib.hid he3
  have hcall := Lib.hid (PS.out v3 wb gt 0 _ v3 hw (by have := HGT.out; omega))
  clear hown hb2 hb12 hb3 hn3 hw he3 HB1 PS
  go_wp2_with fail
  refine hcall.out.mono ?_
  rintro e v4 ⟨rfl, h4⟩
  rw [BD.out] at h4
  obtain ⟨val, hval, hown⟩ := h4.st.2.2
  obtain ⟨a, cap, rfl, hrow⟩ := own_row hown B8.out
  have HW := Lib.hid hval
  have HR := Lib.hid hrow
  have HL := Lib.hid h4.low
  have HE4 : Hid (v4.heap[ge]? = some (.cells #[I 0] 35 (0, 0))) := Lib.hid (h4.keep ge _ _ _ HE3.out (by decide))
  clear hcall h4 hown hval hrow
  obtain ⟨cr, hcr⟩ : ∃ n : Nat, CrcM.crc 65535 body = n := ⟨_, rfl⟩
  have hcr2 : cr < 65536 := by rw [← hcr]; exact CrcM.crc_lt _ _ (by decide)
  have SL : Hid (Cd.sealB body = body ++ low 2 (cr : Int)) := Lib.hid (by unfold Cd.sealB; rw [hcr])
  have CR : Hid (∀ W, Below v4.heap.size v4 W → Calls Tryz.prog 27 #[.slice a body.length cap] W fun e w' => e = .returned (.int .u16 (cr : Int)) ∧ Below W.heap.size W w') := Lib.hid (fun W hb => by rw [← hcr]; exact CrcA.of_any a cap body W (HR.out.below hb))
  have PU : Hid (∀ W, Below v4.heap.size v4 W → Calls Tryz.prog 25 #[.slice a body.length cap, .int .i64 2, .int .i64 (cr : Int)] W fun e w' => ∃ v, e = .returned v ∧ Own W.heap.size w' v (Cd.sealB body) ∧ Below W.heap.size W w') := Lib.hid (fun W hb => by rw [SL.out]; exact Put.put_any a cap body 2 cr W (HR.out.below hb) (by have := LN.out; omega))
  obtain ⟨res, hres⟩ : ∃ x, x = Cd.sealB body := ⟨_, rfl⟩
  rw [← hres] at PU
  have RS : Hid (res = Cd.sealB (Cd.bodyB T)) := Lib.hid (by rw [hres, HBODY.out])
  clear hres
  generalize body.length = bl at HW CR PU
  have ew : wrap64 (cr : Int) = cr := IntWalk.wrap64_in _ (by omega)
  have ew2 : IntKind.i64.wrap (cr : Int) = cr := by rw [IntKind.wrap_i64]; omega
  have q1 : ∀ p : QB.By v4.heap.size v4, p.world.cell? ⟨wb, 0, none⟩ = some (.slice a bl cap) := fun p => by rw [cell_of_row _ _ _ _ _ _ ((p.below.block wb (Array.getElem?_eq_some_iff.1 HW.out).1).trans HW.out)]; rfl
  clear hcr
  go_upto_region 6 with fail
  refine wp_region_noPanic ?_
  refine QT.region1 v4.heap.size 10 (by kernel_rfl) (by kernel_rfl) (by kernel_rfl) (by kernel_rfl) (v := .pointer (some ⟨wb, 0, none⟩)) (fun _ _ _ h => h) (Or.inl ⟨by rfl, fun w' => by go_simp; try rfl⟩) ?_
  dsimp only [Act.put]
  simp only [List.setIfInBounds_toArray, List.set_cons_zero, List.set_cons_succ, List.take_succ_cons, List.take_zero, List.drop_succ_cons, List.drop_zero]
  repeat (quiet_step (first
    | (go_at_call 27; with_reducible exact QB.call_of (Nat.le_refl _) (fun b => CR.out _ b))))
  refine wpQuiet_nil ?_
  intro _ hw'
  obtain ⟨p, rfl⟩ := hw'
  have HP := Lib.hid p.below
  clear q1
  generalize p.world = v5 at HP ⊢
  (try simp only [List.drop_succ_cons, List.drop_zero])
  go_wp2_with fail
  refine (PU.out v5 HP.out).mono ?_
  rintro e v6 ⟨rv, rfl, hown, hb⟩
  have h6 : v6.heap[ge]? = some (.cells #[I 0] 35 (0, 0)) := by
    have h5 := (HP.out.block ge (Array.getElem?_eq_some_iff.1 HE4.out).1).trans HE4.out
    exact (hb.block ge (Array.getElem?_eq_some_iff.1 h5).1).trans h5
  have c6 : v6.cell? ⟨ge, 0, none⟩ = some (I 0) := by rw [cell_of_row _ _ _ _ _ _ h6]; rfl
  have f6 : v6.frozen? ⟨ge, 0, none⟩ = false := frozen_of_row _ _ _ _ _ h6
  have hst := setCell_eq_setRow v6 ge 0 #[I 0] 35 (0, 0) (I 0) h6
  have HO := Lib.hid hown
  have H6 := Lib.hid h6
  have HB6 : Hid (Below w.heap.size w v6) := Lib.hid (by
    have := HP.out.trans (hb.mono HP.out.size)
    exact HL.out.trans (this.mono HL.out.size))
  have HSZ : Hid (v4.heap.size ≤ v5.heap.size) := Lib.hid HP.out.size
  clear hown hb h6
  go_wp2_with fail
  refine NoPanic.normal ?_
  try rw [hst]
  go_wp2_with fail
  have hc := setRow_heap v6 ge #[I 0] #[I 0] _ _ H6.out
  have hB := below_setRow HB6.out (show w.heap.size ≤ ge by have := GE.out; have := HGT.out; omega) #[I 0]
  have hO : Own v5.heap.size (v6.setRow ge #[I 0]) rv res := by
    refine ⟨HO.out.1, ?_⟩
    rcases HO.out.2 with h0 | ⟨g, cp, cur, h1, h2, h3, h4⟩
    · exact .inl h0
    · refine .inr ⟨g, cp, cur, h1, h2, ?_, h4⟩
      rw [setRow_other _ _ _ _ (fun e => by subst e; rw [H6.out] at h3; cases h3)]
      exact h3
  generalize v6.setRow ge #[I 0] = v7 at hc hB hO ⊢
  refine leaves_cons (f := 21) (args := #[.pointer (some ⟨ge, 0, none⟩)]) (by simp) (by simp [go_sem]) ?_
  refine (enc_idle ge 0 v7 hc).mono ?_
  rintro e u' w'' ⟨rfl, rfl, w1, hb1, rfl⟩
  have hc2 := setRow_heap w1 ge #[I 0] #[I 0] _ _ ((hb1.block ge (Array.getElem?_eq_some_iff.1 hc).1).trans hc)
  have hBB := below_setRow (hB.trans (hb1.mono hB.size)) (show w.heap.size ≤ ge by have := GE.out; have := HGT.out; omega) #[I 0]
  have hcell : (w1.setRow ge #[I 0]).cell? ⟨ge, 0, none⟩ = some (I 0) := by rw [cell_of_row _ _ _ _ _ _ hc2]; rfl
  have hO2 : Own w.heap.size (w1.setRow ge #[I 0]) rv res := by
    have h0 := Go.Proofs.YtpgoafbkjmmedaaGreat.B.own_below (own_mono hO (show w.heap.size ≤ v5.heap.size from Nat.le_trans HL.out.size HSZ.out)) hb1
    refine ⟨h0.1, ?_⟩
    rcases h0.2 with h0 | ⟨g, cp, cur, h1, h2, h3, h4⟩
    · exact .inl h0
    · refine .inr ⟨g, cp, cur, h1, h2, ?_, h4⟩
      rw [setRow_other _ _ _ _ (fun e => by rw [e, (hb1.block ge (Array.getElem?_eq_some_iff.1 hc).1).trans hc] at h3; cases h3)]
      exact h3
  simp [Leaves, settle, results, Tryz.results11, go_sem, hcell]
  rw [RS.out] at hO2
  exact ⟨hO2, hBB⟩
end Po
namespace Rd
open Go.ChangeShapes Go.WideShapes Go.ChangeAt Go.RowKit
open B Put
/-- All that was there, block g aside, is as it was. -/
structure But (g : Nat) (w w' : World) : Prop where
  os : w'.os = w.os
  tape : w'.tape = w.tape
  output : w'.output = w.output
  size : w.heap.size ≤ w'.heap.size
  block : ∀ k, k < w.heap.size → k ≠ g → w'.heap[k]? = w.heap[k]?
theorem But.refl (g : Nat) (w : World) : But g w w := ⟨rfl, rfl, rfl, Nat.le_refl _, fun _ _ _ => rfl⟩
theorem But.trans {g : Nat} {a b c : World} (h : But g a b) (k : But g b c) : But g a c :=
  ⟨k.os.trans h.os, k.tape.trans h.tape, k.output.trans h.output, Nat.le_trans h.size k.size, fun i hi hg => (k.block i (Nat.lt_of_lt_of_le hi h.size) hg).trans (h.block i hi hg)⟩
theorem But.of {g : Nat} {w w' : World} (h : Below w.heap.size w w') : But g w w' := ⟨h.os, h.tape, h.output, h.size, fun k hk _ => h.block k hk⟩
theorem But.below {g B : Nat} {w w' : World} (h : But g w w') (hB : B ≤ w.heap.size) (hg : B ≤ g) : Below B w w' := ⟨h.os, h.tape, h.output, h.size, fun k hk => h.block k (by omega) (by omega)⟩
theorem But.set (g i : Nat) (w : World) (v : Value) : But g w (w.setCell ⟨g, i, none⟩ v) :=
  ⟨rfl, rfl, rfl, by simp [World.setCell], fun k _ hk => Below.heap_setCell _ _ _ _ hk⟩
theorem But.cell {g : Nat} {w w' : World} (h : But g w w') {p : Addr} (hp : p.block < w.heap.size) (hg : p.block ≠ g) : w'.cell? p = w.cell? p := World.cell?_of_block (w := w) (h.block p.block hp hg)
theorem But.row {g : Nat} {w w' : World} (h : But g w w') {ad : Option Addr} {l : List Nat} (hr : Row w ad l) (hg : l ≠ [] → ∀ x, ad = some x → x.block ≠ g) : Row w' ad l := by
  refine ⟨hr.1, hr.2.1, ?_⟩
  by_cases hl : l = []
  · exact .inl hl
  replace hg := hg hl
  rcases hr.2.2 with h1 | ⟨x, hx, hc⟩
  · exact .inl h1
  · refine .inr ⟨x, hx, fun i hi => ?_⟩
    have hlt := World.block_lt_of_cell? w _ (hc i hi)
    refine (h.cell hlt ?_).trans (hc i hi)
    have := hg x hx
    unfold Addr.add
    split <;> exact this
/-- A Reader of the bytes l in block g: how many have been read, the Fault. -/
structure Rd (w : World) (g : Nat) (ad : Option Addr) (cap : Nat) (l : List Nat) (k : Nat) (code fat : Int) : Prop where
  lt : g < w.heap.size
  row : Row w ad l
  off : l ≠ [] → ∀ x, ad = some x → x.block ≠ g
  c0 : w.cell? ⟨g, 0, none⟩ = some (.slice ad l.length cap)
  c1 : w.cell? ⟨g, 1, none⟩ = some (.int .i64 k)
  c2 : w.cell? ⟨g, 2, none⟩ = some (.int .i64 code)
  c3 : w.cell? ⟨g, 3, none⟩ = some (.int .i64 fat)
  fz : ∀ i, w.frozen? ⟨g, i, none⟩ = false
  cap_le : l.length ≤ cap
theorem Rd.but {w w' : World} {g g' : Nat} {ad : Option Addr} {cap : Nat} {l : List Nat} {k : Nat} {code fat : Int} (h : Rd w g ad cap l k code fat) (hb : But g' w w') (hg : g ≠ g') (hx : l ≠ [] → ∀ x, ad = some x → x.block ≠ g') : Rd w' g ad cap l k code fat :=
  ⟨Nat.lt_of_lt_of_le h.lt hb.size, hb.row h.row hx, h.off, (hb.cell h.lt hg).trans h.c0, (hb.cell h.lt hg).trans h.c1, (hb.cell h.lt hg).trans h.c2, (hb.cell h.lt hg).trans h.c3,
    fun i => (World.frozen?_of_block (w := w) (hb.block g h.lt hg)).trans (h.fz i), h.cap_le⟩
theorem Rd.below {w w' : World} {g : Nat} {ad : Option Addr} {cap : Nat} {l : List Nat} {k : Nat} {code fat : Int} (h : Rd w g ad cap l k code fat) (hb : Below w.heap.size w w') : Rd w' g ad cap l k code fat :=
  ⟨Nat.lt_of_lt_of_le h.lt hb.size, h.row.below hb, h.off, (hb.cell h.lt).trans h.c0, (hb.cell h.lt).trans h.c1, (hb.cell h.lt).trans h.c2, (hb.cell h.lt).trans h.c3,
    fun i => (hb.frozen (p := ⟨g, i, none⟩) h.lt).trans (h.fz i), h.cap_le⟩
theorem clone_any (ad : Option Addr) (cap : Nat) (l : List Nat) (w : World) (hr : Row w ad l) (hl : l.length ≤ 10000) (hnil : ad = none → cap = 0) :
    Calls Tryz.prog 82 #[.slice ad l.length cap] w fun e w' => ∃ v, e = .returned v ∧ Own w.heap.size w' v l ∧ Below w.heap.size w w' := by
  have Hr := Lib.hid hr
  clear hr
  cases ad with
  | none =>
    have h0 := hnil rfl
    subst h0
    have hl0 : l = [] := by
      rcases Hr.out.2.2 with h | ⟨x, hx, _⟩
      · exact h
      · cases hx
    subst hl0
    have he : ∀ w : World, (binOp .eql 34 (.slice none 0 0) (.slice none 0 0)).run Tryz.prog w = .ok (.bool true) w := fun _ => rfl
    go_enter Tryz.func82, Tryz.ntmps82
    go_wp2
    go_ret
    exact ⟨_, rfl, own_nil _ _, Below.refl _ _⟩
  | some x =>
    clear hnil
    have he : ∀ (w : World) (n : Nat), (binOp .eql 34 (.slice (some x) n cap) (.slice none 0 0)).run Tryz.prog w = .ok (.bool false) w := fun _ _ => rfl
    go_enter Tryz.func82, Tryz.ntmps82
    have hown : Own w.heap.size (w.alloc (.cells #[] 5)) (.slice (some ⟨w.heap.size, 0, none⟩) 0 0) [] :=
      ⟨rfl, .inr ⟨w.heap.size, 0, #[], rfl, Nat.le_refl _, heap_alloc_new w _, Nat.le_refl _, by unfold maxLen; omega, rfl, rfl⟩⟩
    have Hown := Lib.hid hown
    clear hown
    go_wp2_with (at_builtin; refine wpList_more rfl _ _ rfl w.heap.size _ [] rfl Hown.out x cap l rfl (Hr.out.below ((Below.refl _ _).alloc (Nat.le_refl _) _)) ?hB ?len ?_)
    case hB => simp
    case len => simp; omega
    intro v w' hown' hb
    have hgo : Below w.heap.size w w' := ((Below.refl _ _).alloc (Nat.le_refl _) _).trans hb
    have Hown' := Lib.hid hown'
    clear hown'
    go_wp2
    go_ret
    exact ⟨_, rfl, Hown'.out, hgo⟩
theorem new_any (ad : Option Addr) (cap : Nat) (l : List Nat) (w : World) (hr : Row w ad l) (hl : l.length ≤ 10000) (hnil : ad = none → cap = 0) :
    Calls Tryz.prog 30 #[.slice ad l.length cap] w fun e w' => ∃ g ad' cap', e = .returned (.pointer (some ⟨g, 0, none⟩)) ∧ w.heap.size ≤ g ∧ (∀ x, ad' = some x → w.heap.size ≤ x.block ∧ x.block < g) ∧ Rd w' g ad' cap' l 0 0 0 ∧ Below w.heap.size w w' := by
  have Hr := Lib.hid hr
  clear hr
  go_enter Tryz.func30, Tryz.ntmps30
  go_wp2_with fail
  refine (clone_any ad cap l _ Hr.out hl hnil).mono ?_
  rintro e w1 ⟨v, rfl, hown, hbel⟩
  obtain ⟨a1, cap1, rfl, hr1⟩ := own_row hown Hr.out.2.1
  have Hown := Lib.hid hown
  have Hr1 := Lib.hid hr1
  clear hown hr1 hnil
  go_wp2
  go_ret
  refine ⟨w1.heap.size, a1, cap1, rfl, hbel.size, ?_, ?_, hbel.alloc hbel.size _⟩
  · intro x hx
    subst hx
    exact Hown.out.lt x.block rfl
  · refine ⟨by simp, Hr1.out.below ((Below.refl _ _).alloc (Nat.le_refl _) _), fun _ x hx e => ?_, by simp, by simp, by simp, by simp, fun i => by unfold World.frozen?; rw [heap_alloc_new]; simp, ?_⟩
    · subst hx
      have := (Hown.out.lt x.block rfl).2
      omega
    · have h := Hown.out
      rcases h.2 with ⟨h1, h2⟩ | ⟨g', c', cur, h1, h2, h3, h4, h5⟩
      · omega
      · cases h1; exact h4
theorem left_any (g : Nat) (ad : Option Addr) (cap : Nat) (l : List Nat) (k : Nat) (code fat : Int) (w : World) (h : Rd w g ad cap l k code fat) (hl : l.length ≤ 10000) (hk : k ≤ l.length) :
    Calls Tryz.prog 85 #[.pointer (some ⟨g, 0, none⟩)] w fun e w' => e = .returned (.int .i64 (l.length - k : Int)) ∧ ∃ n, w' = w.drewN n := by
  have h0 := h.c0
  have h1 := h.c1
  clear h
  go_enter Tryz.func85, Tryz.ntmps85
  go_wp2
  go_quiet (fail)
  go_wp2
  go_ret
  exact ⟨rfl, _, rfl⟩
theorem fault_any (g : Nat) (ad : Option Addr) (cap : Nat) (l : List Nat) (k : Nat) (code fat : Int) (w : World) (h : Rd w g ad cap l k code fat) :
    Calls Tryz.prog 142 #[.pointer (some ⟨g, 0, none⟩)] w fun e w' => e = .returned (.agg #[.int .i64 code, .int .i64 fat]) ∧ Below w.heap.size w w' := by
  have h2 := h.c2
  have h3 := h.c3
  have hg := h.lt
  clear h
  go_enter Tryz.func142, Tryz.ntmps142
  go_wp2
  refine bodyPost_ret (v := .agg #[.int .i64 code, .int .i64 fat]) ?_ rfl ⟨rfl, (Below.refl _ _).alloc (Nat.le_refl _) _⟩
  exact results_cell_row rfl _ _ w.heap.size 40 #[.int .i64 code, .int .i64 fat] (0, 0) _ rfl (heap_alloc_new w _) Tryz.underlying40 rfl (by kernel_rfl)
end Rd
namespace Nx
open Go.ChangeShapes Go.WideShapes Go.ChangeAt Go.RowKit
open B Put Rd
abbrev fault (code fat : Int) : Value := .iface 40 (.agg #[.int .i64 code, .int .i64 fat])
theorem next_end (g : Nat) (ad : Option Addr) (cap : Nat) (l : List Nat) (k s : Nat) (w : World) (h : Rd w g ad cap l k 0 0) (hl : l.length ≤ 10000) (hk : k ≤ l.length) (hs : l.length < k + s) :
    Calls Tryz.prog 141 #[.pointer (some ⟨g, 0, none⟩), .int .i64 s] w fun e w' => e = .panicked [{ v := fault 2 l.length, recovered := false }] ∧ ∃ n, w' = w.drewN n := by
  have h0 := h.c0
  have h2 := h.c2
  have h3 := h.c3
  have hpan : ∀ (u : TypeId) (v : Value) (w : World), (Instr.panic (.iface u v)).run Tryz.prog w = .halt (.panic (.iface u v)) w := fun _ _ _ => rfl
  have HR := Lib.hid h
  clear h
  go_enter Tryz.func141, Tryz.ntmps141
  go_wp2_with fail
  refine (left_any g ad cap l k 0 0 _ HR.out hl hk).mono ?_
  rintro e w1 ⟨rfl, n, rfl⟩
  have ht : decide ((s : Int) > (l.length : Int) - (k : Int)) = true := decide_eq_true (by omega)
  go_wp2
  exact ⟨rfl, rfl, _, rfl⟩
end Nx
namespace Num
open Go.ChangeShapes Go.WideShapes Go.ChangeAt Go.RowKit
open B Put Rd Nx
/-- A region that draws its order, in a deferred function that may recover. -/
theorem wpS_region_draw {P : Program} {Q : Exit → Act → List Frame → World → Prop} {a : Act} {cs : List Frame} {w : World} {id : Nat} {ops : Array Oper}
    (h : ∀ t, wpOpsS P ops Q (Region.schedule (P.follows .mixedOrders) ops t) a cs { w with drawn := w.drawn + 1 }) : (Code.region id ops true).wpS P Q a cs w :=
  fun b k hb hr => let ⟨e, a', cs', w', q, r⟩ := wp_opsS _ a cs _ (h _) b k hb hr; ⟨e, a', cs', w', q, .of_steps (.one step_region_draw) r⟩
theorem assert_ok (v : Value) (w : World) : (Instr.typeAssert (.iface 40 v) 20 40 true).run Tryz.prog w = .ok (.tuple #[v, .bool true]) w := by
  simp [Instr.typeAssert, run_underlying Tryz.underlying40, go_sem, Result.andThen]
theorem assert_nil (w : World) : (Instr.typeAssert .nilIface 20 40 true).run Tryz.prog w = .ok (.tuple #[.agg #[.int .i64 0, .int .i64 0], .bool false]) w := by
  have hz : (Tryz.prog.info? 40).map (·.zero) = some (some (.agg #[.int .i64 0, .int .i64 0])) := by kernel_rfl
  obtain ⟨j, hj, hz'⟩ := Option.map_eq_some_iff.1 hz
  simp [Instr.typeAssert, run_underlying Tryz.underlying40, go_sem, Result.andThen, typeInfo, zeroValue, hj, hz']
theorem Rd.keeps {w : World} {g : Nat} {ad : Option Addr} {cap : Nat} {l : List Nat} {k : Nat} {c0 f0 : Int} (h : Rd w g ad cap l k c0 f0) (code fat : Int) :
    Rd ((w.setCell ⟨g, 2, none⟩ (.int .i64 code)).setCell ⟨g, 3, none⟩ (.int .i64 fat)) g ad cap l k code fat := by
  have hb : But g w ((w.setCell ⟨g, 2, none⟩ (.int .i64 code)).setCell ⟨g, 3, none⟩ (.int .i64 fat)) := (But.set g 2 w _).trans (But.set g 3 _ _)
  refine ⟨Nat.lt_of_lt_of_le h.lt hb.size, hb.row h.row h.off, h.off, ?_, ?_, ?_, ?_, fun i => ?_, h.cap_le⟩
  · simp [World.cell?_setCell_other, h.c0]
  · simp [World.cell?_setCell_other, h.c1]
  · simp [World.cell?_setCell_other, World.cell?_setCell_same, h.c2]
  · simp [World.cell?_setCell_other, World.cell?_setCell_same, h.c3]
  · simp [h.fz]
theorem keep_fault (g : Nat) (ad : Option Addr) (cap : Nat) (l : List Nat) (k : Nat) (c0 f0 code fat : Int) (w : World) (h : Rd w g ad cap l k c0 f0) :
    Calls Tryz.prog 140 #[.pointer (some ⟨g, 0, none⟩), fault code fat] w fun e w' => e = .returned (.tuple #[]) ∧ But g w w' ∧ Rd w' g ad cap l k code fat := by
  have h0 := h.c0
  have h1 := h.c1
  have h2 := h.c2
  have h3 := h.c3
  have h4 := h.fz 2
  have h5 := h.fz 3
  have hg := h.lt
  have HR := Lib.hid h
  clear h
  have ha := assert_ok
  have hb := assert_nil
  go_enter Tryz.func140, Tryz.ntmps140
  go_wp2
  have hk := Rd.keeps HR.out code fat
  have hb2 : But g w ((w.setCell ⟨g, 2, none⟩ (.int .i64 code)).setCell ⟨g, 3, none⟩ (.int .i64 fat)) := (But.set g 2 w _).trans (But.set g 3 _ _)
  have hb3 := (Below.refl _ ((w.setCell ⟨g, 2, none⟩ (.int .i64 code)).setCell ⟨g, 3, none⟩ (.int .i64 fat))).alloc (Nat.le_refl _) (.cells #[.int .i64 code, .int .i64 fat] 40)
  go_end0
  exact ⟨rfl, hb2.trans (But.of hb3), hk.below hb3⟩
theorem num_panic (b g : Nat) (ad : Option Addr) (cap : Nat) (l : List Nat) (k : Nat) (c0 f0 code fat : Int) (w : World) (hbox : w.cell? ⟨b, 0, none⟩ = some (.pointer (some ⟨g, 0, none⟩))) (h : Rd w g ad cap l k c0 f0) :
    CallsD Tryz.prog 139 #[.pointer (some ⟨b, 0, none⟩)] (.panicking [{ v := fault code fat, recovered := false }]) w fun e u' w' =>
      e = .returned (.tuple #[]) ∧ u' = .panicking [{ v := fault code fat, recovered := true }] ∧ But g w w' ∧ Rd w' g ad cap l k code fat := by
  refine callsD_of_wpS Tryz.func139 rfl fun c₀ cs hu => ?_
  apply wpS_region_draw
  intro t
  have hm : Tryz.prog.follows .mixedOrders = true := rfl
  have hd := h.below (w' := w.drew) ((Below.refl _ _).drew)
  have hbd : But g w w.drew := But.of ((Below.refl _ _).drew)
  rcases Nat.mod_two_eq_zero_or_one t with ht | ht
  all_goals
    simp [Region.schedule, hm, Region.linearise, Region.linearise.go, Region.binds, List.range, List.range.loop, ht, Nat.mod_one]
    simp [wpOpsS, go_sem, recoverD, hu, hbox]
    refine (keep_fault g ad cap l k c0 f0 code fat _ hd).mono ?_
    rintro e w' ⟨rfl, hb, hr⟩
    simp [bodyPostS, results, Tryz.results139]
    exact ⟨hbd.trans hb, hr⟩
end Num
namespace Nm
open Go.ChangeShapes Go.WideShapes Go.ChangeAt Go.RowKit
open B Put Rd Nx Num
theorem num_end (g : Nat) (ad : Option Addr) (cap : Nat) (l : List Nat) (k : Nat) (size low high : Int) (w : World) (h : Rd w g ad cap l k 0 0) (hl : l.length ≤ 10000) (hk : k ≤ l.length) (hs : l.length < k + (lim size 7)) :
    Calls Tryz.prog 131 #[.pointer (some ⟨g, 0, none⟩), .int .i64 size, .int .i64 low, .int .i64 high] w fun e w' => e = .returned (.int .i64 0) ∧ Rd w' g ad cap l k 2 l.length ∧ But g w w' := by
  have hmf : ∀ (fn : Fn) (first cap : Array Value) (w : World), (Instr.makeFunc fn first cap).run Tryz.prog w = .ok (.func fn first cap) w := fun _ _ _ _ => rfl
  have hpan : ∀ (u : TypeId) (v : Value) (w : World), (Instr.panic (.iface u v)).run Tryz.prog w = .halt (.panic (.iface u v)) w := fun _ _ _ => rfl
  have HR := Lib.hid h
  clear h
  go_enter_defers Tryz.func131, Tryz.ntmps131
  go_wp2_with fail
  refine (limit_any size 7 _).mono ?_
  rintro e w' ⟨rfl, rfl⟩
  have hb1 := (Below.refl w.heap.size w).alloc (Nat.le_refl _) (.cells #[.pointer (some ⟨g, 0, none⟩)] 66)
  have hbox : (w.alloc (.cells #[.pointer (some ⟨g, 0, none⟩)] 66)).cell? ⟨w.heap.size, 0, none⟩ = some (.pointer (some ⟨g, 0, none⟩)) := by simp
  have hlt1 : w.heap.size < (w.alloc (.cells #[.pointer (some ⟨g, 0, none⟩)] 66)).heap.size := by simp
  have hgl : g < w.heap.size := HR.out.lt
  have HR1 := Lib.hid (HR.out.below hb1)
  have HB1 := Lib.hid hb1
  generalize w.alloc (.cells #[.pointer (some ⟨g, 0, none⟩)] 66) = w1 at hbox hlt1 HR1 HB1 ⊢
  clear hb1
  have hs7 := lim_le size 7
  generalize hsz : lim size 7 = sz at hs hs7 ⊢
  have HSZ := Lib.hid hsz
  clear hsz
  go_wp2_with fail
  refine (next_end g ad cap l k sz _ HR1.out hl hk hs).mono ?_
  rintro e w' ⟨rfl, n, rfl⟩
  go_wp2
  have hdr : Below w1.heap.size w1 (w1.drewN n) := below_drewN (Below.refl _ _) n
  have HR2 := Lib.hid (HR1.out.below hdr)
  have HB2 := Lib.hid (chain HB1.out hdr)
  have hbox2 : (w1.drewN n).cell? ⟨w.heap.size, 0, none⟩ = some (.pointer (some ⟨g, 0, none⟩)) := hbox
  refine leaves_cons (f := 139) (args := #[.pointer (some ⟨w.heap.size, 0, none⟩)]) (by simp) (by simp [go_sem]) ?_
  refine (num_panic w.heap.size g ad cap l k 0 0 2 l.length (w1.drewN n) hbox2 HR2.out).mono ?_
  rintro e u' w'' ⟨rfl, rfl, hb, hr⟩
  simp [Leaves, settle, results, Tryz.results131, go_sem]
  exact ⟨hr, (But.of HB2.out).trans hb⟩
end Nm
end Go.Proofs.YtpgoafbkjmmedaaGreat
