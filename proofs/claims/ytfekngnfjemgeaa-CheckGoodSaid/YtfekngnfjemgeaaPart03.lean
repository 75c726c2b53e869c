/- 10 texts in one file, in build order. -/
import Derived.Test.YtfekngnfjemgeaaRows
import Derived.Test.YtfekngnfjemgeaaPart02
import Derived.Deep.Cut
import Derived.Test.YtfekngnfjemgeaaPart01
import Derived.OwnWalk
import Derived.Laws.CopyOwn
import Derived.LoopTactic
import Derived.WalkKit
import Derived.ProofKit
import Derived.IntWalk
import Derived.Lib.Hide
import Derived.Below
set_option linter.unusedVariables false
set_option linter.unusedSimpArgs false
set_option linter.unusedSectionVars false
/- The contract of table.May, at any table. -/
namespace Go.Proofs.Ytfekngnfjemgeaa.May
open Go.ChangeShapes Go.WideShapes Go.ChangeAt Go.RowKit
open Tab
set_option linter.unusedVariables false
set_option linter.unusedSimpArgs false

def listMay {α : Type} (m : Int) (f : α → Bool) (l : List α) : Bool := decide ((l.length : Int) ≤ m) && l.all f
def tabMay (T : Tab) : Bool :=
  listMay 8 Ph.may T.phases && (listMay 4 groupMay T.groups && (allIn 255 T.conflict && (listMay 16 Det.may T.dets && (listMay 4 Rl.may T.rails && (listMay 4 Bs.may T.buses &&
    (allIn 9999 [T.extend, T.budget, T.start, T.revert, T.least] && (allIn 2 T.flash && allIn 2147483647 [T.window, T.share])))))))

/-- Ints that lie in a block, as a row. -/
theorem ints_in {w : World} {g : Nat} {cs : Array Value} {t : TypeId} {fr : Nat × Nat} (hg : w.heap[g]? = some (.cells cs t fr)) (o n : Nat) (l : List Int) (h : (cs.toList.drop o).take n = l.map I) (hn : l.length = n) (hm : n ≤ maxLen) :
    IntRow w ⟨some ⟨g, o, none⟩, n⟩ l := by
  subst hn
  refine .inr ⟨_, rfl, Nat.le_refl _, hm, fun i v hv j u hu => ?_⟩
  cases j with
  | zero =>
    obtain rfl := Option.some.inj hu
    rw [Nat.mul_one, add_two, Nat.add_zero, Addr.add_mid]
    exact range_of hg o _ _ h i _ (by simp [hv])
  | succ j => cases hu
/-- Phases that lie at a block's head, as a row. -/
theorem phases_in {w : World} {g : Nat} {cs : Array Value} {t : TypeId} {fr : Nat × Nat} {T : Tab} {h : Hd} (hg : w.heap[g]? = some (.cells cs t fr)) (C : CellsOk T h cs) (hn : T.phases.length = 8) :
    RowOf 13 Ph.cells w ⟨some ⟨g, 0, none⟩, 8⟩ T.phases := by
  refine .inr ⟨_, rfl, by rw [hn]; exact Nat.le_refl _, (show 8 ≤ maxLen by decide), fun i v hv j u hu => ?_⟩
  rw [add_two, Addr.add_mid, Nat.zero_add, Nat.mul_comm]
  exact range_of hg (13 * i) 13 _ (C.phase i v hv) j u hu

/-- What a walk over a boxed table holds on to. -/
structure St (w : World) (N : Nat) (cs : Array Value) (h : Hd) (T : Tab) (W : World) : Prop where
  bel : Below w.heap.size w W
  blk : W.heap[N]? = some (.cells cs 32 (0, 0))
  tab : IsTab W h T
  le : w.heap.size ≤ N
theorem St.step {w W W' : World} {N : Nat} {cs : Array Value} {h : Hd} {T : Tab} (k : St w N cs h T W) (hb : Below W.heap.size W W') : St w N cs h T W' :=
  ⟨chain k.bel hb, by rw [hb.block N (Array.getElem?_eq_some_iff.1 k.blk).1]; exact k.blk, k.tab.below hb, k.le⟩
theorem St.cell {w W : World} {N : Nat} {cs : Array Value} {h : Hd} {T : Tab} (k : St w N cs h T W) {o : Nat} {v : Value} (hv : cs[o]? = some v) : W.cell? ⟨N, o, none⟩ = some v := by
  rw [cell_of_row _ _ _ _ _ _ k.blk]; exact hv
theorem St.box {w : World} {cs : Array Value} {h : Hd} {T : Tab} (k : IsTab w h T) : St w w.heap.size cs h T (w.alloc (.cells cs 32)) :=
  ⟨(Below.refl _ _).alloc (Nat.le_refl _) _, heap_alloc_new _ _, k.below ((Below.refl _ _).alloc (Nat.le_refl _) _), Nat.le_refl _⟩

theorem within_len (m : Int) (a : Option Addr) (cap : Nat) (l : List Int) (n : Nat) (hn : l.length = n) (w : World) (h : IntRow w ⟨a, cap⟩ l) :
    Calls Try.prog 70 #[.int .i64 m, .slice a n cap] w fun e w' => e = .returned (.bool (allIn m l)) ∧ w = w' := by
  subst hn; exact within_any m a cap l w h
theorem upto_len (m : Int) (a : Option Addr) (cap : Nat) (l : List Int) (n : Nat) (hn : l.length = n) (w : World) (h : IntRow w ⟨a, cap⟩ l) :
    Calls Try.prog 93 #[.slice a n cap, .int .i64 m] w fun e w' => e = .returned (.bool (allIn m l)) ∧ w = w' := by
  subst hn; exact upto_any m a cap l w h
set_option maxRecDepth 10000 in
set_option maxHeartbeats 2000000 in
theorem may_any (T : Tab) (h : Hd) (w : World) (k : IsTab w h T) :
    Calls Try.prog 40 #[.agg (T.cells h).toArray] w fun e w' => e = .returned (.bool (tabMay T)) ∧ Below w.heap.size w w' := by
  have C := Lib.hid (cells_ok k)
  have L8 := Lib.hid k.ph
  have Lc := Lib.hid k.cf
  have Lf := Lib.hid k.fl
  generalize (T.cells h).toArray = cs at C ⊢
  have hsz := C.out.size
  obtain ⟨gs, hgd, hgr⟩ := k.groups
  have Hgr := Lib.hid hgr
  clear hgr
  have hw0 : Below w.heap.size w (w.alloc (.cells cs 32)) := (Below.refl _ _).alloc (Nat.le_refl _) _
  have HW0 := Lib.hid hw0
  clear hw0
  have S0 := Lib.hid (St.box (cs := cs) k)
  clear k
  have Hgd := Lib.hid hgd
  have hgl : T.groups.length = gs.length := by rw [← hgd, List.length_map]
  have Hgl := Lib.hid hgl
  clear hgd hgl
  have hph := phases_in S0.out.blk C.out L8.out
  have cP := mayAllP_any 8 (some ⟨w.heap.size, 0, none⟩) 8 T.phases _ hph
  rw [L8.out] at cP
  have CP := Lib.hid cP
  clear cP hph
  have L8p : Hid ((8 : Nat) = T.phases.length) := L8.out.symm
  go_enter Try.func40, Try.ntmps40
  go_wp2_with fail
  refine (CP.out).mono ?_
  rintro e w1 ⟨rfl, hb1⟩
  have S1 := Lib.hid (S0.out.step hb1)
  clear hb1 S0
  generalize hv : (decide (((8 : Nat) : Int) ≤ 8) && T.phases.all Ph.may) = b1
  have HB1 : Hid (listMay 8 Ph.may T.phases = b1) := (by unfold listMay; rw [L8.out]; exact hv)
  clear hv
  cases b1
  · go_wp2
    go_ret
    exact ⟨ret_bool (by unfold tabMay; simp only [HB1.out, Bool.true_and, Bool.false_and, Bool.and_true, Bool.and_false]), S1.out.bel⟩
  have c104 := S1.out.cell C.out.g
  rw [Hgl.out] at c104
  go_wp2_with fail
  refine (mayAllG_any 4 h.g.a h.g.cap gs _ (Hgr.out.1.below S1.out.bel) (fun v hv => (Hgr.out.2 v hv).below S1.out.bel)).mono ?_
  rintro e w2 ⟨rfl, hb2⟩
  have S2 := Lib.hid (S1.out.step hb2)
  clear hb2 S1
  generalize hv : (decide ((gs.length : Int) ≤ 4) && gs.all (fun v => groupMay v.data)) = b2
  have HB2 : Hid (listMay 4 groupMay T.groups = b2) := (by unfold listMay; rw [← Hgd.out, List.length_map, List.all_map]; exact hv)
  clear hv
  cases b2
  · go_wp2
    go_ret
    exact ⟨ret_bool (by unfold tabMay; simp only [HB1.out, HB2.out, Bool.true_and, Bool.false_and, Bool.and_true, Bool.and_false]), S2.out.bel⟩
  go_wp2_with fail
  refine (within_len 255 (some ⟨w.heap.size, 105, none⟩) 8 T.conflict 8 Lc.out _ (ints_in S2.out.blk 105 8 _ C.out.conflict Lc.out (by decide))).mono ?_
  rintro e w3 ⟨rfl, rfl⟩
  have S3 := S2
  generalize hv : allIn 255 T.conflict = b3
  have HB3 : Hid (allIn 255 T.conflict = b3) := hv
  clear hv
  cases b3
  · go_wp2
    go_ret
    exact ⟨ret_bool (by unfold tabMay; simp only [HB1.out, HB2.out, HB3.out, Bool.true_and, Bool.false_and, Bool.and_true, Bool.and_false]), S3.out.bel⟩
  have c113 := S3.out.cell C.out.d
  go_wp2_with fail
  refine (mayAllD_any 16 h.d.a h.d.cap T.dets _ S3.out.tab.dets).mono ?_
  rintro e w4 ⟨rfl, hb4⟩
  have S4 := Lib.hid (S3.out.step hb4)
  clear hb4 S3
  generalize hv : (decide ((T.dets.length : Int) ≤ 16) && T.dets.all Det.may) = b4
  have HB4 : Hid (listMay 16 Det.may T.dets = b4) := hv
  clear hv
  cases b4
  · go_wp2
    go_ret
    exact ⟨ret_bool (by unfold tabMay; simp only [HB1.out, HB2.out, HB3.out, HB4.out, Bool.true_and, Bool.false_and, Bool.and_true, Bool.and_false]), S4.out.bel⟩
  have c114 := S4.out.cell C.out.r
  go_wp2_with fail
  refine (mayAllR_any 4 h.r.a h.r.cap T.rails _ S4.out.tab.rails).mono ?_
  rintro e w5 ⟨rfl, hb5⟩
  have S5 := Lib.hid (S4.out.step hb5)
  clear hb5 S4
  generalize hv : (decide ((T.rails.length : Int) ≤ 4) && T.rails.all Rl.may) = b5
  have HB5 : Hid (listMay 4 Rl.may T.rails = b5) := hv
  clear hv
  cases b5
  · go_wp2
    go_ret
    exact ⟨ret_bool (by unfold tabMay; simp only [HB1.out, HB2.out, HB3.out, HB4.out, HB5.out, Bool.true_and, Bool.false_and, Bool.and_true, Bool.and_false]), S5.out.bel⟩
  have c115 := S5.out.cell C.out.b
  go_wp2_with fail
  refine (mayAllB_any 4 h.b.a h.b.cap T.buses _ S5.out.tab.buses).mono ?_
  rintro e w6 ⟨rfl, hb6⟩
  have S6 := Lib.hid (S5.out.step hb6)
  clear hb6 S5
  generalize hv : (decide ((T.buses.length : Int) ≤ 4) && T.buses.all Bs.may) = b6
  have HB6 : Hid (listMay 4 Bs.may T.buses = b6) := hv
  clear hv
  cases b6
  · go_wp2
    go_ret
    exact ⟨ret_bool (by unfold tabMay; simp only [HB1.out, HB2.out, HB3.out, HB4.out, HB5.out, HB6.out, Bool.true_and, Bool.false_and, Bool.and_true, Bool.and_false]), S6.out.bel⟩
  have c116 := S6.out.cell C.out.extend
  have c117 := S6.out.cell C.out.budget
  have c118 := S6.out.cell C.out.start
  have c119 := S6.out.cell C.out.revert
  have c120 := S6.out.cell C.out.least
  go_wp2_with fail
  refine (within_any 9999 _ _ [T.extend, T.budget, T.start, T.revert, T.least] _ (row_new _ _ [T.extend, T.budget, T.start, T.revert, T.least] 5 rfl (by decide) _ rfl)).mono ?_
  rintro e w7 ⟨rfl, hw⟩
  have hb7 : Below w6.heap.size w6 w7 := hw ▸ (Below.refl _ _).alloc (Nat.le_refl _) _
  clear hw
  have S7 := Lib.hid (S6.out.step hb7)
  clear hb7 S6
  generalize hv : allIn 9999 [T.extend, T.budget, T.start, T.revert, T.least] = b7
  have HB7 : Hid (allIn 9999 [T.extend, T.budget, T.start, T.revert, T.least] = b7) := hv
  clear hv
  cases b7
  · go_wp2
    go_ret
    exact ⟨ret_bool (by unfold tabMay; simp only [HB1.out, HB2.out, HB3.out, HB4.out, HB5.out, HB6.out, HB7.out, Bool.true_and, Bool.false_and, Bool.and_true, Bool.and_false]), S7.out.bel⟩
  go_wp2_with fail
  refine (within_len 2 (some ⟨w.heap.size, 121, none⟩) 8 T.flash 8 Lf.out _ (ints_in S7.out.blk 121 8 _ C.out.flash Lf.out (by decide))).mono ?_
  rintro e w8 ⟨rfl, rfl⟩
  have S8 := S7
  generalize hv : allIn 2 T.flash = b8
  have HB8 : Hid (allIn 2 T.flash = b8) := hv
  clear hv
  cases b8
  · go_wp2
    go_ret
    exact ⟨ret_bool (by unfold tabMay; simp only [HB1.out, HB2.out, HB3.out, HB4.out, HB5.out, HB6.out, HB7.out, HB8.out, Bool.true_and, Bool.false_and, Bool.and_true, Bool.and_false]), S8.out.bel⟩
  have c129 := S8.out.cell C.out.window
  have c130 := S8.out.cell C.out.share
  go_wp2_with fail
  refine (within_any 2147483647 _ _ [T.window, T.share] _ (row_new _ _ [T.window, T.share] 2 rfl (by decide) _ rfl)).mono ?_
  rintro e w9 ⟨rfl, hw⟩
  have hb9 : Below w7.heap.size w7 w9 := hw ▸ (Below.refl _ _).alloc (Nat.le_refl _) _
  clear hw
  have S9 := Lib.hid (S8.out.step hb9)
  clear hb9 S8
  generalize hv : allIn 2147483647 [T.window, T.share] = b9
  have HB9 : Hid (allIn 2147483647 [T.window, T.share] = b9) := hv
  clear hv
  go_wp2
  go_ret
  exact ⟨ret_bool (by unfold tabMay; simp only [HB1.out, HB2.out, HB3.out, HB4.out, HB5.out, HB6.out, HB7.out, HB8.out, HB9.out, Bool.true_and, Bool.false_and, Bool.and_true, Bool.and_false]), S9.out.bel⟩
end Go.Proofs.Ytfekngnfjemgeaa.May
/- The contract of the document's May, at any table: it answers as table.May does. -/
namespace Go.Proofs.Ytfekngnfjemgeaa.May
open Go.ChangeShapes Go.WideShapes Go.ChangeAt Go.RowKit
open Tab
set_option linter.unusedVariables false
set_option linter.unusedSimpArgs false

/-- The document's order. -/
def tabRmay (T : Tab) : Bool :=
  ((((allIn 9999 [T.extend, T.budget, T.start, T.revert, T.least] && allIn 2147483647 [T.window, T.share]) && allIn 255 T.conflict) && allIn 2 T.flash) && T.phases.all Ph.may)
theorem may_lens {T : Tab} (h : 4 < T.groups.length ∨ 16 < T.dets.length ∨ 4 < T.rails.length ∨ 4 < T.buses.length) : tabMay T = false := by
  unfold tabMay listMay
  rcases h with h | h | h | h
  · rw [decide_eq_false (p := (T.groups.length : Int) ≤ 4) (by omega)]; simp
  · rw [decide_eq_false (p := (T.dets.length : Int) ≤ 16) (by omega)]; simp
  · rw [decide_eq_false (p := (T.rails.length : Int) ≤ 4) (by omega)]; simp
  · rw [decide_eq_false (p := (T.buses.length : Int) ≤ 4) (by omega)]; simp
theorem may_group {T : Tab} {g : List Int × List Int} (h : g ∈ T.groups) (hg : groupMay g = false) : tabMay T = false := by
  have : T.groups.all groupMay = false := by rw [List.all_eq_false]; exact ⟨g, h, by simp [hg]⟩
  unfold tabMay listMay
  rw [this]; simp
theorem may_order {T : Tab} (h8 : T.phases.length = 8) (hg : ¬ 4 < T.groups.length) (hd : ¬ 16 < T.dets.length) (hr : ¬ 4 < T.rails.length) (hb : ¬ 4 < T.buses.length) (hall : T.groups.all groupMay = true) :
    tabMay T = (((tabRmay T && T.dets.all Det.may) && T.rails.all Rl.may) && T.buses.all Bs.may) := by
  unfold tabMay listMay tabRmay
  rw [hall, decide_eq_true (p := (T.phases.length : Int) ≤ 8) (by omega), decide_eq_true (p := (T.groups.length : Int) ≤ 4) (by omega), decide_eq_true (p := (T.dets.length : Int) ≤ 16) (by omega), decide_eq_true (p := (T.rails.length : Int) ≤ 4) (by omega), decide_eq_true (p := (T.buses.length : Int) ≤ 4) (by omega)]
  simp only [Bool.true_and]
  generalize T.phases.all Ph.may = p
  generalize T.dets.all Det.may = d
  generalize T.rails.all Rl.may = r
  generalize T.buses.all Bs.may = b
  generalize allIn 255 T.conflict = c
  generalize allIn 2 T.flash = f
  generalize allIn 9999 _ = x
  generalize allIn 2147483647 _ = y
  revert p d r b c f x y
  decide
theorem acc_step {α : Type} {f : α → Bool} {l : List α} {k : Nat} {v : α} {b c : Bool} (h : l[k]? = some v) (hv : f v = c) : (b && (l.take (k + 1)).all f) = ((b && (l.take k).all f) && c) := by
  rw [take_succ' l k v h, List.all_append]; simp [hv, Bool.and_assoc]
theorem acc_end {α : Type} {f : α → Bool} {l : List α} {k : Nat} {b : Bool} (h : ¬ k < l.length) : (b && (l.take k).all f) = (b && l.all f) := by
  rw [List.take_of_length_le (by omega)]

def GAll (l : List Gr) : Prop := l.all (fun v => groupMay v.data) = true
theorem GAll.step {l : List Gr} {k : Nat} {v : Gr} (h : l[k]? = some v) (hk : GAll (l.take k)) (hv : groupMay v.data = true) : GAll (l.take (k + 1)) := all_step (f := fun v : Gr => groupMay v.data) h hk hv
theorem GAll.fin {l : List Gr} {k : Nat} (hk : GAll (l.take k)) (h : ¬ k < l.length) : l.all (fun v => groupMay v.data) = true := all_end (f := fun v : Gr => groupMay v.data) hk h
theorem infoT : (Try.prog.info? 32).map (·.size) = some 131 := by kernel_rfl
set_option maxRecDepth 10000 in
set_option maxHeartbeats 4000000 in
theorem rmay_any (T : Tab) (h : Hd) (w : World) (k : IsTab w h T) :
    Calls Try.prog 43 #[.agg (T.cells h).toArray] w fun e w' => e = .returned (.bool (tabMay T)) ∧ Below w.heap.size w w' := by
  have C := Lib.hid (cells_ok k)
  have L8 := Lib.hid k.ph
  have Lc := Lib.hid k.cf
  have Lf := Lib.hid k.fl
  have Kd := (k.dets).len
  have Kr := (k.rails).len
  have Kb := (k.buses).len
  generalize (T.cells h).toArray = cs at C ⊢
  have hsz := C.out.size
  obtain ⟨gs, hgd, hgr⟩ := k.groups
  have Kg := hgr.1.len
  unfold maxLen at Kd Kr Kb Kg
  have Hgr := Lib.hid hgr
  clear hgr
  have S0 := Lib.hid (St.box (cs := cs) k)
  clear k
  have Hgd := Lib.hid hgd
  have hgl : T.groups.length = gs.length := by rw [← hgd, List.length_map]
  have Hgl := Lib.hid hgl
  clear hgd
  clear hgl
  go_enter Try.func43, Try.ntmps43
  go_upto_region 1 with fail
  generalize hw1 : w.alloc (.cells cs 32) = w1 at S0 ⊢
  clear hw1
  have c104 := S0.out.cell C.out.g
  rw [Hgl.out] at c104
  have c113 := S0.out.cell C.out.d
  have c114 := S0.out.cell C.out.r
  have c115 := S0.out.cell C.out.b
  clear hsz
  by_cases hG : 4 < gs.length
  · go_wp2
    go_ret
    exact ⟨ret_bool (may_lens (.inl (by rw [Hgl.out]; omega))).symm, S0.out.bel⟩
  by_cases hD : 16 < T.dets.length
  · go_wp2
    go_ret
    exact ⟨ret_bool (may_lens (.inr (.inl (by omega)))).symm, S0.out.bel⟩
  by_cases hR : 4 < T.rails.length
  · go_wp2
    go_ret
    exact ⟨ret_bool (may_lens (.inr (.inr (.inl (by omega))))).symm, S0.out.bel⟩
  by_cases hB : 4 < T.buses.length
  · go_wp2
    go_ret
    exact ⟨ret_bool (may_lens (.inr (.inr (.inr (by omega))))).symm, S0.out.bel⟩
  have HG := Lib.hid (show ¬ 4 < T.groups.length by rw [Hgl.out]; exact hG)
  have HD := Lib.hid hD
  have HR := Lib.hid hR
  have HB := Lib.hid hB
  have dG : decide ((4 : Int) < (gs.length : Int)) = false := decide_eq_false (by omega)
  have dD : decide ((16 : Int) < (T.dets.length : Int)) = false := decide_eq_false (by omega)
  have dR : decide ((4 : Int) < (T.rails.length : Int)) = false := decide_eq_false (by omega)
  have dB : decide ((4 : Int) < (T.buses.length : Int)) = false := decide_eq_false (by omega)
  clear hG hD hR hB
  go_upto_region 3 with fail
  clear c104 c113 c114 c115 dG dD dR dB
  go_cut [3] from 32 (fun t3 wx => t3 = .bool (((allIn 9999 [T.extend, T.budget, T.start, T.revert, T.least] && allIn 2147483647 [T.window, T.share]) && allIn 255 T.conflict) && allIn 2 T.flash) ∧ St w w.heap.size cs h T wx)
  case first =>
    have c116 := S0.out.cell C.out.extend
    have c117 := S0.out.cell C.out.budget
    have c118 := S0.out.cell C.out.start
    have c119 := S0.out.cell C.out.revert
    have c120 := S0.out.cell C.out.least
    go_wp2_with fail
    refine (times_any _ _ [T.extend, T.budget, T.start, T.revert, T.least] _ (row_new _ _ [T.extend, T.budget, T.start, T.revert, T.least] 5 rfl (by decide) _ rfl)).mono ?_
    rintro e w2 ⟨rfl, hw⟩
    have hb2 : Below w1.heap.size w1 w2 := hw ▸ (Below.refl _ _).alloc (Nat.le_refl _) _
    have S2 := Lib.hid (S0.out.step hb2)
    clear hb2 hw c116 c117 c118 c119 c120
    generalize hv : allIn 9999 [T.extend, T.budget, T.start, T.revert, T.least] = b1
    have V1 := Lib.hid hv
    clear hv
    cases b1
    · go_wp2_with fail
      go_meet
      exact ⟨by simp only [V1.out, Bool.true_and, Bool.false_and, Bool.and_false], S2.out⟩
    have c129 := S2.out.cell C.out.window
    have c130 := S2.out.cell C.out.share
    go_wp2_with fail
    refine (upto_any 2147483647 _ _ [T.window, T.share] _ (row_new _ _ [T.window, T.share] 2 rfl (by decide) _ rfl)).mono ?_
    rintro e w3 ⟨rfl, hw⟩
    have hb3 : Below w2.heap.size w2 w3 := hw ▸ (Below.refl _ _).alloc (Nat.le_refl _) _
    have S3 := Lib.hid (S2.out.step hb3)
    clear hb3 hw c129 c130
    generalize hv : allIn 2147483647 [T.window, T.share] = b2
    have V2 := Lib.hid hv
    clear hv
    cases b2
    · go_wp2_with fail
      go_meet
      exact ⟨by simp only [V1.out, V2.out, Bool.true_and, Bool.false_and, Bool.and_false], S3.out⟩
    go_wp2_with fail
    refine (upto_len 255 (some ⟨w.heap.size, 105, none⟩) 8 T.conflict 8 Lc.out _ (ints_in S3.out.blk 105 8 _ C.out.conflict Lc.out (by decide))).mono ?_
    rintro e w4 ⟨rfl, rfl⟩
    generalize hv : allIn 255 T.conflict = b3
    have V3 := Lib.hid hv
    clear hv
    cases b3
    · go_wp2_with fail
      go_meet
      exact ⟨by simp only [V1.out, V2.out, V3.out, Bool.true_and, Bool.false_and, Bool.and_false], S3.out⟩
    go_wp2_with fail
    refine (upto_len 2 (some ⟨w.heap.size, 121, none⟩) 8 T.flash 8 Lf.out _ (ints_in S3.out.blk 121 8 _ C.out.flash Lf.out (by decide))).mono ?_
    rintro e w5 ⟨rfl, rfl⟩
    go_wp2_with fail
    go_meet
    exact ⟨by simp only [V1.out, V2.out, V3.out, Bool.true_and], S3.out⟩
  case rest =>
  obtain ⟨rfl, hs⟩ := hcut
  clear S0
  generalize hok : (((allIn 9999 [T.extend, T.budget, T.start, T.revert, T.least] && allIn 2147483647 [T.window, T.share]) && allIn 255 T.conflict) && allIn 2 T.flash) = ok
  have HOK := Lib.hid hok
  have S1 := Lib.hid hs
  clear hok hs
  go_wp2_with fail
  go_loopw [3, 4] (fun b i wr => ∃ q : Nat, q ≤ 8 ∧ i = .int .i64 q ∧ b = .bool (ok && (T.phases.take q).all Ph.may) ∧ St w w.heap.size cs h T wr) (fun _ i _ => 8 - (intOf i).toNat)
  case atStart => exact ⟨0, by omega, rfl, by simp, S1.out⟩
  case round =>
    clear S1
    obtain ⟨q, hq, rfl, rfl, hs⟩ := hrel
    have S1 := Lib.hid hs
    clear hs
    by_cases hlt : q < 8
    · have hv : T.phases[q]? = some (T.phases[q]'(by rw [L8.out]; exact hlt)) := List.getElem?_eq_getElem _
      generalize T.phases[q]'(by rw [L8.out]; exact hlt) = v at hv
      have HV := Lib.hid hv
      obtain ⟨x, hx, hc⟩ := (phases_in S1.out.blk C.out L8.out).at hv
      obtain rfl := Option.some.inj hx
      have HC := Lib.hid (show Lies wr ⟨w.heap.size, q * 13, none⟩ v.cells by have := hc; rwa [Addr.add_mid, Nat.zero_add] at this)
      clear hv hc hx
      generalize hacc : (ok && (T.phases.take q).all Ph.may) = acc
      have HA := Lib.hid hacc
      clear hacc
      cases acc
      · go_wp2
        go_roundw
        case rel => exact ⟨q + 1, by omega, by go_num, by rw [acc_step HV.out rfl, HA.out]; rfl, S1.out⟩
        case measure => simp [intOf]; omega
      · go_wp2_with (first | (refine Row.wpList_load_g 24 _ rfl (by first | rfl | go_simp) ⟨w.heap.size, q * 13, none⟩ rfl v.cells _ HC.out Try.underlying24 rfl infoP ?_))
        refine (rphase_any v _).mono ?_
        rintro e w2 ⟨rfl, hb2⟩
        have S2 := Lib.hid (S1.out.step hb2)
        clear hb2
        go_wp2
        go_roundw
        case rel => exact ⟨q + 1, by omega, by go_num, by rw [acc_step HV.out rfl, HA.out, Bool.true_and], S2.out⟩
        case measure => simp [intOf]; omega
    · have hend : (ok && (T.phases.take q).all Ph.may) = (ok && T.phases.all Ph.may) := acc_end (by rw [L8.out]; omega)
      rw [hend]
      generalize hok1 : (ok && T.phases.all Ph.may) = ok1
      have HOK1 := Lib.hid hok1
      clear hok1 hend
      go_wp2_with fail
      go_loopw [5] (fun i wr => ∃ q : Nat, q ≤ gs.length ∧ i = .int .i64 q ∧ GAll (gs.take q) ∧ St w w.heap.size cs h T wr) (fun i _ => gs.length - (intOf i).toNat)
      case atStart => exact ⟨0, by omega, rfl, (rfl : GAll []), S1.out⟩
      case round =>
        clear S1
        obtain ⟨q, hq, rfl, hall, hs⟩ := hrel
        have S1 := Lib.hid hs
        have Hall := Lib.hid hall
        clear hs hall
        have c104 := S1.out.cell C.out.g
        rw [Hgl.out] at c104
        by_cases hlt : q < gs.length
        · have hv := List.getElem?_eq_getElem hlt
          generalize gs[q] = v at hv
          obtain ⟨x, hx, hc⟩ := (Hgr.out.1.below S1.out.bel).at hv
          have hok := Hgr.out.2 v (List.mem_of_getElem? hv)
          have HV := Lib.hid hv
          obtain ⟨l0, l1, ⟨a0, cap0⟩, ⟨a1, cap1⟩⟩ := v
          have HC := Lib.hid hc
          have H0 := Lib.hid hok.1
          have H1 := Lib.hid hok.2
          have K0 := hok.1.len
          have K1 := hok.2.len
          unfold maxLen at K0 K1
          clear hv hc hok
          go_wp2_with fail
          go_loopw [6] (fun i wr => ∃ r : Nat, r ≤ 2 ∧ i = .int .i64 r ∧ (0 < r → rowMay l0 = true) ∧ (1 < r → rowMay l1 = true) ∧ St w w.heap.size cs h T wr) (fun i _ => 2 - (intOf i).toNat)
          case atStart => exact ⟨0, by omega, rfl, fun h => absurd h (by omega), fun h => absurd h (by omega), S1.out⟩
          case round =>
            clear S1 c104
            obtain ⟨r, hr, rfl, hr0, hr1, hs⟩ := hrel
            have S1 := Lib.hid hs
            have R0 := Lib.hid hr0
            have R1 := Lib.hid hr1
            clear hs hr0 hr1
            have c104 := S1.out.cell C.out.g
            simp only [Sl.val, Hgl.out, hx] at c104
            obtain ⟨x', hx', hc⟩ := (Hgr.out.1.below S1.out.bel).at HV.out
            obtain rfl : x' = x := Option.some.inj (hx'.symm.trans hx)
            have e0 := hc 0 _ rfl
            have e1 := hc 1 _ rfl
            rw [add_zero] at e0
            rw [add_one] at e1
            clear hc hx'
            have hr2 : r = 0 ∨ r = 1 ∨ r = 2 := by omega
            rcases hr2 with rfl | rfl | rfl
            · by_cases h8 : 8 < l0.length
              · go_wp2
                go_ret
                exact ⟨ret_bool (may_group (T := T) (g := (l0, l1)) (by rw [← Hgd.out]; exact List.mem_map.2 ⟨_, List.mem_of_getElem? HV.out, rfl⟩) (by unfold groupMay rowMay; simp only []; rw [decide_eq_false (p := l0.length ≤ 8) (by omega)]; simp)).symm, S1.out.bel⟩
              · have H8 := Lib.hid h8
                go_wp2_with (go_at_call 93; refine (upto_any 7 a0 cap0 l0 _ (H0.out.below S1.out.bel)).mono ?_; rintro e w2 ⟨rfl, rfl⟩; generalize hrow : allIn 7 l0 = b; have HR2 := Lib.hid hrow; clear hrow; cases b)
                · go_wp2
                  go_ret
                  exact ⟨ret_bool (may_group (T := T) (g := (l0, l1)) (by rw [← Hgd.out]; exact List.mem_map.2 ⟨_, List.mem_of_getElem? HV.out, rfl⟩) (by unfold groupMay rowMay; simp only []; rw [HR2.out]; simp)).symm, S1.out.bel⟩
                · go_wp2
                  go_roundw
                  case rel => exact ⟨0 + 1, by omega, by go_num, fun _ => by unfold rowMay; rw [HR2.out, decide_eq_true (by have := H8.out; omega)]; rfl, fun h => absurd h (by omega), S1.out⟩
                  case measure => simp [intOf]
            · by_cases h8 : 8 < l1.length
              · go_wp2
                go_ret
                exact ⟨ret_bool (may_group (T := T) (g := (l0, l1)) (by rw [← Hgd.out]; exact List.mem_map.2 ⟨_, List.mem_of_getElem? HV.out, rfl⟩) (by unfold groupMay rowMay; simp only []; rw [decide_eq_false (p := l1.length ≤ 8) (by omega)]; simp)).symm, S1.out.bel⟩
              · have H8 := Lib.hid h8
                go_wp2_with (go_at_call 93; refine (upto_any 7 a1 cap1 l1 _ (H1.out.below S1.out.bel)).mono ?_; rintro e w2 ⟨rfl, rfl⟩; generalize hrow : allIn 7 l1 = b; have HR2 := Lib.hid hrow; clear hrow; cases b)
                · go_wp2
                  go_ret
                  exact ⟨ret_bool (may_group (T := T) (g := (l0, l1)) (by rw [← Hgd.out]; exact List.mem_map.2 ⟨_, List.mem_of_getElem? HV.out, rfl⟩) (by unfold groupMay rowMay; simp only []; rw [HR2.out]; simp)).symm, S1.out.bel⟩
                · go_wp2
                  go_roundw
                  case rel => exact ⟨1 + 1, by omega, by go_num, fun _ => R0.out (by omega), fun _ => by unfold rowMay; rw [HR2.out, decide_eq_true (by have := H8.out; omega)]; rfl, S1.out⟩
                  case measure => simp [intOf]
            · have Hrow := Lib.hid (And.intro (R0.out (by omega)) (R1.out (by omega)))
              go_wp2
              go_roundw
              case rel => exact ⟨q + 1, by omega, by go_num, (Hall.out.step HV.out (by show (rowMay l0 && rowMay l1) = true; rw [Hrow.out.1, Hrow.out.2]; rfl)), S1.out⟩
              case measure => simp [intOf]; omega
        · have hall2 : T.groups.all groupMay = true := by
            have := Hall.out.fin hlt
            rw [← Hgd.out, List.all_map]; exact this
          have HALL := Lib.hid hall2
          clear hall2 Hall
          have c113 := S1.out.cell C.out.d
          go_wp2_with fail
          go_loopw [3, 7] (fun b i wr => ∃ q : Nat, q ≤ T.dets.length ∧ i = .int .i64 q ∧ b = .bool (ok1 && (T.dets.take q).all Det.may) ∧ St w w.heap.size cs h T wr) (fun _ i _ => T.dets.length - (intOf i).toNat)
          case atStart => exact ⟨0, by omega, rfl, by simp, S1.out⟩
          case round =>
            clear S1
            obtain ⟨q, hq, rfl, rfl, hs⟩ := hrel
            have S1 := Lib.hid hs
            clear hs
            have c113 := S1.out.cell C.out.d
            by_cases hlt : q < T.dets.length
            · have hv := List.getElem?_eq_getElem hlt
              generalize T.dets[q] = v at hv
              obtain ⟨x, hx, hc⟩ := (S1.out.tab.dets).at hv
              simp only [Sl.val, hx] at c113
              have HV := Lib.hid hv
              have HC := Lib.hid hc
              clear hv hc
              generalize hacc : (ok1 && (T.dets.take q).all Det.may) = acc
              have HA := Lib.hid hacc
              clear hacc
              cases acc
              · go_wp2
                go_roundw
                case rel => exact ⟨q + 1, by omega, by go_num, by rw [acc_step HV.out rfl, HA.out]; rfl, S1.out⟩
                case measure => simp [intOf]; omega
              · go_wp2_with (first | (refine Row.wpList_load_g 39 _ rfl (by first | rfl | go_simp) (x.add (q * 7)) rfl v.cells _ HC.out Try.underlying39 rfl infoD ?_))
                refine (rdetector_any v _).mono ?_
                rintro e w2 ⟨rfl, hb2⟩
                have S2 := Lib.hid (S1.out.step hb2)
                clear hb2
                go_wp2
                go_roundw
                case rel => exact ⟨q + 1, by omega, by go_num, by rw [acc_step HV.out rfl, HA.out, Bool.true_and], S2.out⟩
                case measure => simp [intOf]; omega
            · have hend : (ok1 && (T.dets.take q).all Det.may) = (ok1 && T.dets.all Det.may) := acc_end hlt
              rw [hend]
              generalize hok1 : (ok1 && T.dets.all Det.may) = ok2
              have HOK2 := Lib.hid hok1
              clear hok1 hend
              have c114 := S1.out.cell C.out.r
              go_wp2_with fail
              go_loopw [3, 8] (fun b i wr => ∃ q : Nat, q ≤ T.rails.length ∧ i = .int .i64 q ∧ b = .bool (ok2 && (T.rails.take q).all Rl.may) ∧ St w w.heap.size cs h T wr) (fun _ i _ => T.rails.length - (intOf i).toNat)
              case atStart => exact ⟨0, by omega, rfl, by simp, S1.out⟩
              case round =>
                clear S1
                obtain ⟨q, hq, rfl, rfl, hs⟩ := hrel
                have S1 := Lib.hid hs
                clear hs
                have c114 := S1.out.cell C.out.r
                by_cases hlt : q < T.rails.length
                · have hv := List.getElem?_eq_getElem hlt
                  generalize T.rails[q] = v at hv
                  obtain ⟨x, hx, hc⟩ := (S1.out.tab.rails).at hv
                  simp only [Sl.val, hx] at c114
                  have HV := Lib.hid hv
                  have HC := Lib.hid hc
                  clear hv hc
                  generalize hacc : (ok2 && (T.rails.take q).all Rl.may) = acc
                  have HA := Lib.hid hacc
                  clear hacc
                  cases acc
                  · go_wp2
                    go_roundw
                    case rel => exact ⟨q + 1, by omega, by go_num, by rw [acc_step HV.out rfl, HA.out]; rfl, S1.out⟩
                    case measure => simp [intOf]; omega
                  · go_wp2_with (first | (refine Row.wpList_load_g 41 _ rfl (by first | rfl | go_simp) (x.add (q * 11)) rfl v.cells _ HC.out Try.underlying41 rfl infoR ?_))
                    refine (rrail_any v _).mono ?_
                    rintro e w2 ⟨rfl, hb2⟩
                    have S2 := Lib.hid (S1.out.step hb2)
                    clear hb2
                    go_wp2
                    go_roundw
                    case rel => exact ⟨q + 1, by omega, by go_num, by rw [acc_step HV.out rfl, HA.out, Bool.true_and], S2.out⟩
                    case measure => simp [intOf]; omega
                · have hend : (ok2 && (T.rails.take q).all Rl.may) = (ok2 && T.rails.all Rl.may) := acc_end hlt
                  rw [hend]
                  generalize hok1 : (ok2 && T.rails.all Rl.may) = ok3
                  have HOK3 := Lib.hid hok1
                  clear hok1 hend
                  have c115 := S1.out.cell C.out.b
                  go_wp2_with fail
                  go_loopw [3, 9] (fun b i wr => ∃ q : Nat, q ≤ T.buses.length ∧ i = .int .i64 q ∧ b = .bool (ok3 && (T.buses.take q).all Bs.may) ∧ St w w.heap.size cs h T wr) (fun _ i _ => T.buses.length - (intOf i).toNat)
                  case atStart => exact ⟨0, by omega, rfl, by simp, S1.out⟩
                  case round =>
                    clear S1
                    obtain ⟨q, hq, rfl, rfl, hs⟩ := hrel
                    have S1 := Lib.hid hs
                    clear hs
                    have c115 := S1.out.cell C.out.b
                    by_cases hlt : q < T.buses.length
                    · have hv := List.getElem?_eq_getElem hlt
                      generalize T.buses[q] = v at hv
                      obtain ⟨x, hx, hc⟩ := (S1.out.tab.buses).at hv
                      simp only [Sl.val, hx] at c115
                      have HV := Lib.hid hv
                      have e0 := hc 0 _ rfl
                      have e1 := hc 1 _ rfl
                      rw [add_zero] at e0
                      rw [add_one] at e1
                      obtain ⟨set, lock⟩ := v
                      have HC := Lib.hid hc
                      clear hv hc
                      generalize hacc : (ok3 && (T.buses.take q).all Bs.may) = acc
                      have HA := Lib.hid hacc
                      clear hacc
                      cases acc
                      · go_wp2
                        go_roundw
                        case rel => exact ⟨q + 1, by omega, by go_num, by rw [acc_step HV.out rfl, HA.out]; rfl, S1.out⟩
                        case measure => simp [intOf]; omega
                      · go_wp2_with fail
                        refine (upto_any 255 _ _ [set] _ (row_new _ _ [set] 1 rfl (by decide) _ rfl)).mono ?_
                        rintro e w2 ⟨rfl, hw⟩
                        have hb2 : Below wr.heap.size wr w2 := hw ▸ (Below.refl _ _).alloc (Nat.le_refl _) _
                        clear hw
                        have S2 := Lib.hid (S1.out.step hb2)
                        have HC2 := Lib.hid (HC.out.below hb2)
                        clear hb2 e0 e1 c115
                        generalize hv : allIn 255 [set] = b1
                        have V1 := Lib.hid hv
                        clear hv
                        cases b1
                        · go_wp2
                          go_roundw
                          case rel => exact ⟨q + 1, by omega, by go_num, by rw [acc_step HV.out rfl, HA.out, Bool.true_and]; unfold Bs.may; rw [V1.out]; rfl, S2.out⟩
                          case measure => simp [intOf]; omega
                        · have c115 := S2.out.cell C.out.b
                          simp only [Sl.val, hx] at c115
                          have e0 := HC2.out 0 _ rfl
                          have e1 := HC2.out 1 _ rfl
                          rw [add_zero] at e0
                          rw [add_one] at e1
                          go_wp2_with fail
                          refine (times_any _ _ [lock] _ (row_new _ _ [lock] 1 rfl (by decide) _ rfl)).mono ?_
                          rintro e w3 ⟨rfl, hw⟩
                          have hb3 : Below w2.heap.size w2 w3 := hw ▸ (Below.refl _ _).alloc (Nat.le_refl _) _
                          clear hw
                          have S3 := Lib.hid (S2.out.step hb3)
                          clear hb3 e0 e1 c115
                          go_wp2
                          go_roundw
                          case rel => exact ⟨q + 1, by omega, by go_num, by rw [acc_step HV.out rfl, HA.out, Bool.true_and]; unfold Bs.may; rw [V1.out, Bool.true_and], S3.out⟩
                          case measure => simp [intOf]; omega
                    · have hend : (ok3 && (T.buses.take q).all Bs.may) = (ok3 && T.buses.all Bs.may) := acc_end hlt
                      rw [hend]
                      go_wp2
                      go_ret
                      exact ⟨ret_bool (by rw [may_order L8.out HG.out HD.out HR.out HB.out HALL.out, ← HOK3.out, ← HOK2.out, ← HOK1.out, ← HOK.out]; rfl), S1.out.bel⟩
end Go.Proofs.Ytfekngnfjemgeaa.May
/- make and copy for elements of several cells: the walk's laws; a list's elements as one row of cells. No program in it. -/
namespace Go.Proofs.Ytfekngnfjemgeaa.Copy
open Go Go.RowKit
open Tab

section
variable {P : Program}
theorem run_copy_rows (w : World) (dT sT ty elem : TypeId) (g dLen dCap : Nat) (a : Addr) (sLen sCap c n : Nat) (cur : Array Value) (t : TypeId) (cs : List Value)
    (hu : P.underlying dT = some (.slice elem)) (hs : (P.info? elem).map (·.size) = some c) (hg : w.heap[g]? = some (.cells cur t (0, 0))) (hn : n = Nat.min sLen dLen) (hc : cs.length = n * c)
    (hsrc : Lies w a cs) (hfit : cs.length = cur.size) (h1 : ∀ v ∈ cs, v.oneCell' = true) :
    (Builtin.copy_ #[dT, sT] ty #[.slice (some ⟨g, 0, none⟩) dLen dCap, .slice (some a) sLen sCap]).run P w = .ok (goInt n) (w.setRow g cs.toArray) := by
  have hl := run_loadCells_list (P := P) w a cs hsrc
  have hst := run_storeCells_at P g 0 t cs 0 cur w hg (by omega) h1
  cases hq : P.info? elem with
  | none => simp [hq] at hs
  | some i =>
    have hi : i.size = c := by simpa [hq] using hs
    rw [hc] at hl
    have he : cur.toList.take (0 + 0) ++ cs ++ cur.toList.drop (0 + 0 + cs.length) = cs := by
      rw [List.drop_of_length_le (by simp; omega)]; simp
    rw [he] at hst
    simp [Builtin.copy_, run_underlying hu, Builtin.lenOf, Builtin.firstCells, sizeOf, typeInfo, hq, hi, ← hn, hl, hst]
theorem run_copy_zero (w : World) (dT sT ty elem : TypeId) (dp sp : Option Addr) (dLen dCap sLen sCap : Nat) (hu : P.underlying dT = some (.slice elem)) (hs : ((P.info? elem).map (·.size)).isSome = true) (hn : Nat.min sLen dLen = 0) :
    (Builtin.copy_ #[dT, sT] ty #[.slice dp dLen dCap, .slice sp sLen sCap]).run P w = .ok (goInt 0) w := by
  cases hq : P.info? elem with
  | none => simp [hq] at hs
  | some i => cases dp <;> cases sp <;> simp [Builtin.copy_, run_underlying hu, Builtin.lenOf, Builtin.firstCells, sizeOf, typeInfo, hq, storeCells, hn, loadCells, loadCellsFrom]
/-- make([]T, n): a block of n times as many cells as an element has. -/
theorem wpList_make_rows {ops : Array Oper} {rest : List Oper} {o : Oper} {a : Act} {w : World} {Q : Exit → Act → World → Prop} (hg : o.guard = none) (l c : Operand) (t e : TypeId) (hop : o.op = Op.makeSlice t l c) (hu : P.underlying t = some (.slice e))
    (z : Value) (size bytes : Nat) (hi : (P.info? e).map (fun i => (i.zero, i.size, i.bytes)) = some (some z, size, bytes)) (n : Nat) (hl : a.eval l = .int .i64 (n : Int)) (hc : a.eval c = .int .i64 (n : Int)) (hn : n ≤ 1000) (hb : bytes ≤ 100000)
    (h : ∀ w' cur, w'.heap[w.heap.size]? = some (.cells cur e (0, 0)) → cur.size = n * size → Below w.heap.size w w' → w'.heap.size = w.heap.size + 1 → wpList P ops Q rest (a.put o.dst (.slice (some ⟨w.heap.size, 0, none⟩) n n)) w') : wpList P ops Q (o :: rest) a w := by
  obtain ⟨i, hi0, hz, hs, hby⟩ := info_parts hi
  refine wpList_plain hg fun K hK => ?_
  have hle : (i.bytes : Int) * (n : Int) ≤ 281474976710656 := by
    have h1 : i.bytes * n ≤ 100000 * 1000 := Nat.mul_le_mul (by omega) hn
    have h2 : (i.bytes : Int) * (n : Int) = ((i.bytes * n : Nat) : Int) := by simp
    omega
  have hrun := run_make (P := P) w t e i z hu hi0 hz .i64 .i64 (n : Int) (n : Int) (by omega) (by omega) hle (by omega)
  unfold Oper.wp
  simp only [execOp, hop, hl, hc, Sem.run_bind, hrun, Result.andThen_ok]
  refine hK _ _ (h _ _ (heap_alloc_new _ _) ?_ ((Below.refl _ _).alloc (Nat.le_refl _) _) (by simp))
  rw [size_madeCells, hs]; simp
/-- copy into all of a block of the call's own. -/
theorem wpList_copy_rows {ops : Array Oper} {rest : List Oper} {o : Oper} {a : Act} {w : World} {Q : Exit → Act → World → Prop} (hgd : o.guard = none) (d s : Operand) (dT sT elem : TypeId)
    (ho : o.op = .call { callee := .builtin .copy, args := #[d, s], argTypes := #[dT, sT] }) (hu : P.underlying dT = some (.slice elem)) (c : Nat) (hsz : (P.info? elem).map (·.size) = some c)
    (g n sCap : Nat) (sp : Option Addr) (hd : a.eval d = .slice (some ⟨g, 0, none⟩) n n) (hs : a.eval s = .slice sp n sCap) (cur : Array Value) (t : TypeId) (hg : w.heap[g]? = some (.cells cur t (0, 0)))
    (cs : List Value) (hcs : cs.length = n * c) (hcur : cur.size = n * c) (hsrc : 0 < n → ∃ x, sp = some x ∧ Lies w x cs) (h1 : ∀ v ∈ cs, v.oneCell' = true)
    (h : ∀ w', w'.heap[g]? = some (.cells cs.toArray t (0, 0)) → Below g w w' → w'.heap.size = w.heap.size → wpList P ops Q rest (a.put o.dst (goInt n)) w') : wpList P ops Q (o :: rest) a w := by
  refine wpList_plain hgd fun K hK => ?_
  by_cases h0 : n = 0
  · subst h0
    have hrun := run_copy_zero (P := P) w dT sT o.type elem (some ⟨g, 0, none⟩) sp 0 0 0 sCap hu (by rw [hsz]; rfl) rfl
    unfold Oper.wp
    simp [execOp, ho, resolve, invoke, builtin, hd, hs, hrun, Result.andThen]
    have e1 : cs = [] := List.eq_nil_of_length_eq_zero (by simpa using hcs)
    have e2 : cur = #[] := Array.eq_empty_of_size_eq_zero (by simpa using hcur)
    refine hK _ _ (h w ?_ (Below.refl _ _) rfl)
    rw [hg, e1, e2]
  · obtain ⟨x, rfl, hlx⟩ := hsrc (by omega)
    have hrun := run_copy_rows (P := P) w dT sT o.type elem g n n x n sCap c n cur t cs hu hsz hg (Nat.min_self n).symm hcs hlx (by omega) h1
    unfold Oper.wp
    simp [execOp, ho, resolve, invoke, builtin, hd, hs, hrun, Result.andThen]
    exact hK _ _ (h _ (setRow_heap w g cur cs.toArray t _ hg) (below_setRow (Below.refl _ _) (Nat.le_refl _) _) (by simp))
end

/-! ### a list's elements as one row -/
section
variable {α : Type} {n : Nat} {enc : α → List Value}
theorem flat_len (he : ∀ v, (enc v).length = n) (l : List α) : (l.flatMap enc).length = l.length * n := by
  induction l with
  | nil => simp
  | cons v l ih => rw [List.flatMap_cons, List.length_append, ih, he, List.length_cons, Nat.add_mul, Nat.one_mul, Nat.add_comm]
theorem lies_flat (he : ∀ v, (enc v).length = n) {w : World} {x : Addr} : ∀ (l : List α) (k : Nat), (∀ i v, l[i]? = some v → Lies w (x.add ((k + i) * n)) (enc v)) → Lies w (x.add (k * n)) (l.flatMap enc)
  | [], _, _ => fun j v hv => by simp at hv
  | u :: l, k, h => by
    have ih := lies_flat he l (k + 1) (fun i v hv => by have := h (i + 1) v (by simpa using hv); rwa [show k + (i + 1) = k + 1 + i by omega] at this)
    intro j v hv
    rw [List.flatMap_cons, List.getElem?_append] at hv
    split at hv
    · exact h 0 u rfl j v hv
    · rename_i hj
      have := ih (j - (enc u).length) v hv
      rw [add_two, he u, Nat.add_mul, Nat.one_mul, show k * n + n + (j - n) = k * n + j by rw [he u] at hj; omega] at this
      rw [add_two]; exact this
theorem flat_at (he : ∀ v, (enc v).length = n) : ∀ (l : List α) (i : Nat) (v : α) (j : Nat) (u : Value), l[i]? = some v → (enc v)[j]? = some u → (l.flatMap enc)[i * n + j]? = some u
  | x :: l, 0, v, j, u, h, hu => by
    obtain rfl := Option.some.inj h
    rw [List.flatMap_cons, Nat.zero_mul, Nat.zero_add, List.getElem?_append_left (List.getElem?_eq_some_iff.1 hu).1]; exact hu
  | x :: l, i + 1, v, j, u, h, hu => by
    have := flat_at he l i v j u (by simpa using h) hu
    rw [List.flatMap_cons, List.getElem?_append_right (by rw [he, Nat.add_mul]; omega), he, Nat.add_mul, Nat.one_mul, show i * n + n + j - n = i * n + j by omega]
    exact this
/-- A block that holds just a list's elements, as a slice over it. -/
theorem row_of_block (he : ∀ v, (enc v).length = n) {w : World} {g : Nat} {t : TypeId} {fr : Nat × Nat} (l : List α) (hg : w.heap[g]? = some (.cells (l.flatMap enc).toArray t fr)) (hl : l.length ≤ maxLen) : RowOf n enc w ⟨some ⟨g, 0, none⟩, l.length⟩ l := by
  refine .inr ⟨_, rfl, Nat.le_refl _, hl, fun i v hv j u hu => ?_⟩
  rw [add_two, Addr.add_mid, cell_of_row _ _ _ _ _ _ hg, Nat.zero_add]
  simpa using flat_at he l i v j u hv hu
theorem RowOf.flat (he : ∀ v, (enc v).length = n) {w : World} {s : Sl} {l : List α} (h : RowOf n enc w s l) (h0 : 0 < l.length) : ∃ x, s.a = some x ∧ Lies w x (l.flatMap enc) := by
  rcases h with ⟨_, _, rfl⟩ | ⟨x, h1, h2, h3, h4⟩
  · simp at h0
  · refine ⟨x, h1, ?_⟩
    have := lies_flat (x := x) he l 0 (fun i v hv => by rw [Nat.zero_add]; exact h4 i v hv)
    rwa [Nat.zero_mul, add_zero] at this
theorem flat_one (ho : ∀ v, (enc v).toArray.all (·.oneCell') = true) (l : List α) : ∀ u ∈ l.flatMap enc, u.oneCell' = true := by
  intro u hu
  obtain ⟨v, _, hv⟩ := List.mem_flatMap.1 hu
  have := ho v
  rw [List.all_toArray] at this
  exact List.all_eq_true.1 this u hv
end
end Go.Proofs.Ytfekngnfjemgeaa.Copy
/- The contracts of table.fresh at its five types of element: a copy in new memory. -/
namespace Go.Proofs.Ytfekngnfjemgeaa.Clone
open Go.ChangeShapes Go.WideShapes Go.ChangeAt Go.RowKit
open Tab Copy
open May (chain infoP infoG infoD infoR infoB)
set_option linter.unusedVariables false
set_option linter.unusedSimpArgs false
/-- What fresh hands back: a new block that holds just the elements. -/
def Fresh (e : TypeId) (cs : List Value) (n : Nat) (w : World) (r : Ending) (w' : World) : Prop :=
  r = .returned (.slice (some ⟨w.heap.size, 0, none⟩) n n) ∧ w'.heap[w.heap.size]? = some (.cells cs.toArray e (0, 0)) ∧ Below w.heap.size w w' ∧ w'.heap.size = w.heap.size + 1
theorem infoI : (Try.prog.info? 3).map (·.size) = some 1 := by kernel_rfl
theorem zI : (Try.prog.info? 3).map (fun i => (i.zero, i.size, i.bytes)) = some (some (.int .i64 0), 1, 8) := by kernel_rfl
theorem zG : (Try.prog.info? 36).map (fun i => (i.zero, i.size, i.bytes)) = some (some (.agg #[.slice none 0 0, .slice none 0 0]), 2, 48) := by kernel_rfl
theorem zD : (Try.prog.info? 39).map (fun i => (i.zero, i.size, i.bytes)) = some (some (.agg #[.int .i64 0, .float .f64 0, .float .f64 0, .float .f64 0, .float .f64 0, .int .i64 0, .int .i64 0]), 7, 56) := by kernel_rfl
theorem zR : (Try.prog.info? 41).map (fun i => (i.zero, i.size, i.bytes)) = some (some (.agg #[.int .i64 0, .int .i64 0, .int .i64 0, .int .i64 0, .int .i64 0, .int .i64 0, .int .i64 0, .int .i64 0, .int .i64 0, .int .i64 0, .int .i64 0]), 11, 88) := by kernel_rfl
theorem zB : (Try.prog.info? 43).map (fun i => (i.zero, i.size, i.bytes)) = some (some (.agg #[.int .i64 0, .int .i64 0]), 2, 16) := by kernel_rfl
theorem RowOf_flat {α : Type} {n : Nat} {enc : α → List Value} (he : ∀ v, (enc v).length = n) {w : World} {s : Sl} {l : List α} (h : RowOf n enc w s l) (h0 : 0 < l.length) : ∃ x, s.a = some x ∧ Lies w x (l.flatMap enc) := Copy.RowOf.flat he h h0
set_option maxRecDepth 10000 in
theorem freshI_any (a : Option Addr) (cap : Nat) (l : List Int) (w : World) (h : RowOf 1 (fun n => [I n]) w ⟨a, cap⟩ l) (hl : l.length ≤ 1000) :
    Calls Try.prog 25 #[.slice a l.length cap] w fun r w' => Fresh 3 (l.flatMap (fun n => [I n])) l.length w r w' := by
  have Hr := Lib.hid h
  have Hl := Lib.hid hl
  have hln := h.len
  unfold maxLen at hln
  clear h hl
  go_enter Try.func25, Try.ntmps25
  go_wp2_with (at_make; refine wpList_make_rows rfl _ _ 22 3 rfl Try.underlying22 _ 1 _ zI l.length rfl rfl Hl.out (by omega) ?_)
  intro w1 cur hg hsz hb hz
  have HZ := Lib.hid hz
  have HG := Lib.hid hg
  have HB := Lib.hid hb
  have HS := Lib.hid hsz
  have HF := Lib.hid (fun h0 => RowOf_flat (n := 1) (enc := (fun n => [I n])) (fun _ => rfl) (Hr.out.below HB.out) h0)
  have HO := Lib.hid (flat_one (enc := (fun n => [I n])) (fun v => by simp [Value.oneCell']) l)
  have HL := Lib.hid (flat_len (n := 1) (enc := (fun n => [I n])) (fun _ => rfl) l)
  clear hg hb hsz hz
  go_wp2_with (refine wpList_copy_rows rfl _ _ 22 22 3 rfl Try.underlying22 1 infoI w.heap.size l.length cap a rfl rfl cur 3 HG.out (l.flatMap (fun n => [I n])) (by have := HL.out; omega) (by have := HS.out; omega) HF.out HO.out ?_)
  intro w2 hg2 hb2 hz2
  have HZ2 := Lib.hid (hz2.trans HZ.out)
  have HG2 := Lib.hid hg2
  have HB2 := Lib.hid (HB.out.trans hb2)
  clear hg2 hb2 hz2
  go_wp2
  go_ret
  exact ⟨rfl, HG2.out, HB2.out, HZ2.out⟩
set_option maxRecDepth 10000 in
theorem freshG_any (a : Option Addr) (cap : Nat) (l : List Gr) (w : World) (h : RowOf 2 Gr.cells w ⟨a, cap⟩ l) (hl : l.length ≤ 1000) :
    Calls Try.prog 24 #[.slice a l.length cap] w fun r w' => Fresh 36 (l.flatMap Gr.cells) l.length w r w' := by
  have Hr := Lib.hid h
  have Hl := Lib.hid hl
  have hln := h.len
  unfold maxLen at hln
  clear h hl
  go_enter Try.func24, Try.ntmps24
  go_wp2_with (at_make; refine wpList_make_rows rfl _ _ 26 36 rfl Try.underlying26 _ 2 _ zG l.length rfl rfl Hl.out (by omega) ?_)
  intro w1 cur hg hsz hb hz
  have HZ := Lib.hid hz
  have HG := Lib.hid hg
  have HB := Lib.hid hb
  have HS := Lib.hid hsz
  have HF := Lib.hid (fun h0 => RowOf_flat (n := 2) (enc := Gr.cells) (fun _ => rfl) (Hr.out.below HB.out) h0)
  have HO := Lib.hid (flat_one (enc := Gr.cells) Gr.one l)
  have HL := Lib.hid (flat_len (n := 2) (enc := Gr.cells) (fun _ => rfl) l)
  clear hg hb hsz hz
  go_wp2_with (refine wpList_copy_rows rfl _ _ 26 26 36 rfl Try.underlying26 2 infoG w.heap.size l.length cap a rfl rfl cur 36 HG.out (l.flatMap Gr.cells) (by have := HL.out; omega) (by have := HS.out; omega) HF.out HO.out ?_)
  intro w2 hg2 hb2 hz2
  have HZ2 := Lib.hid (hz2.trans HZ.out)
  have HG2 := Lib.hid hg2
  have HB2 := Lib.hid (HB.out.trans hb2)
  clear hg2 hb2 hz2
  go_wp2
  go_ret
  exact ⟨rfl, HG2.out, HB2.out, HZ2.out⟩
set_option maxRecDepth 10000 in
theorem freshD_any (a : Option Addr) (cap : Nat) (l : List Det) (w : World) (h : RowOf 7 Det.cells w ⟨a, cap⟩ l) (hl : l.length ≤ 1000) :
    Calls Try.prog 26 #[.slice a l.length cap] w fun r w' => Fresh 39 (l.flatMap Det.cells) l.length w r w' := by
  have Hr := Lib.hid h
  have Hl := Lib.hid hl
  have hln := h.len
  unfold maxLen at hln
  clear h hl
  go_enter Try.func26, Try.ntmps26
  go_wp2_with (at_make; refine wpList_make_rows rfl _ _ 28 39 rfl Try.underlying28 _ 7 _ zD l.length rfl rfl Hl.out (by omega) ?_)
  intro w1 cur hg hsz hb hz
  have HZ := Lib.hid hz
  have HG := Lib.hid hg
  have HB := Lib.hid hb
  have HS := Lib.hid hsz
  have HF := Lib.hid (fun h0 => RowOf_flat (n := 7) (enc := Det.cells) (fun _ => rfl) (Hr.out.below HB.out) h0)
  have HO := Lib.hid (flat_one (enc := Det.cells) Det.one l)
  have HL := Lib.hid (flat_len (n := 7) (enc := Det.cells) (fun _ => rfl) l)
  clear hg hb hsz hz
  go_wp2_with (refine wpList_copy_rows rfl _ _ 28 28 39 rfl Try.underlying28 7 infoD w.heap.size l.length cap a rfl rfl cur 39 HG.out (l.flatMap Det.cells) (by have := HL.out; omega) (by have := HS.out; omega) HF.out HO.out ?_)
  intro w2 hg2 hb2 hz2
  have HZ2 := Lib.hid (hz2.trans HZ.out)
  have HG2 := Lib.hid hg2
  have HB2 := Lib.hid (HB.out.trans hb2)
  clear hg2 hb2 hz2
  go_wp2
  go_ret
  exact ⟨rfl, HG2.out, HB2.out, HZ2.out⟩
set_option maxRecDepth 10000 in
theorem freshR_any (a : Option Addr) (cap : Nat) (l : List Rl) (w : World) (h : RowOf 11 Rl.cells w ⟨a, cap⟩ l) (hl : l.length ≤ 1000) :
    Calls Try.prog 27 #[.slice a l.length cap] w fun r w' => Fresh 41 (l.flatMap Rl.cells) l.length w r w' := by
  have Hr := Lib.hid h
  have Hl := Lib.hid hl
  have hln := h.len
  unfold maxLen at hln
  clear h hl
  go_enter Try.func27, Try.ntmps27
  go_wp2_with (at_make; refine wpList_make_rows rfl _ _ 29 41 rfl Try.underlying29 _ 11 _ zR l.length rfl rfl Hl.out (by omega) ?_)
  intro w1 cur hg hsz hb hz
  have HZ := Lib.hid hz
  have HG := Lib.hid hg
  have HB := Lib.hid hb
  have HS := Lib.hid hsz
  have HF := Lib.hid (fun h0 => RowOf_flat (n := 11) (enc := Rl.cells) (fun _ => rfl) (Hr.out.below HB.out) h0)
  have HO := Lib.hid (flat_one (enc := Rl.cells) Rl.one l)
  have HL := Lib.hid (flat_len (n := 11) (enc := Rl.cells) (fun _ => rfl) l)
  clear hg hb hsz hz
  go_wp2_with (refine wpList_copy_rows rfl _ _ 29 29 41 rfl Try.underlying29 11 infoR w.heap.size l.length cap a rfl rfl cur 41 HG.out (l.flatMap Rl.cells) (by have := HL.out; omega) (by have := HS.out; omega) HF.out HO.out ?_)
  intro w2 hg2 hb2 hz2
  have HZ2 := Lib.hid (hz2.trans HZ.out)
  have HG2 := Lib.hid hg2
  have HB2 := Lib.hid (HB.out.trans hb2)
  clear hg2 hb2 hz2
  go_wp2
  go_ret
  exact ⟨rfl, HG2.out, HB2.out, HZ2.out⟩
set_option maxRecDepth 10000 in
theorem freshB_any (a : Option Addr) (cap : Nat) (l : List Bs) (w : World) (h : RowOf 2 Bs.cells w ⟨a, cap⟩ l) (hl : l.length ≤ 1000) :
    Calls Try.prog 28 #[.slice a l.length cap] w fun r w' => Fresh 43 (l.flatMap Bs.cells) l.length w r w' := by
  have Hr := Lib.hid h
  have Hl := Lib.hid hl
  have hln := h.len
  unfold maxLen at hln
  clear h hl
  go_enter Try.func28, Try.ntmps28
  go_wp2_with (at_make; refine wpList_make_rows rfl _ _ 30 43 rfl Try.underlying30 _ 2 _ zB l.length rfl rfl Hl.out (by omega) ?_)
  intro w1 cur hg hsz hb hz
  have HZ := Lib.hid hz
  have HG := Lib.hid hg
  have HB := Lib.hid hb
  have HS := Lib.hid hsz
  have HF := Lib.hid (fun h0 => RowOf_flat (n := 2) (enc := Bs.cells) (fun _ => rfl) (Hr.out.below HB.out) h0)
  have HO := Lib.hid (flat_one (enc := Bs.cells) Bs.one l)
  have HL := Lib.hid (flat_len (n := 2) (enc := Bs.cells) (fun _ => rfl) l)
  clear hg hb hsz hz
  go_wp2_with (refine wpList_copy_rows rfl _ _ 30 30 43 rfl Try.underlying30 2 infoB w.heap.size l.length cap a rfl rfl cur 43 HG.out (l.flatMap Bs.cells) (by have := HL.out; omega) (by have := HS.out; omega) HF.out HO.out ?_)
  intro w2 hg2 hb2 hz2
  have HZ2 := Lib.hid (hz2.trans HZ.out)
  have HG2 := Lib.hid hg2
  have HB2 := Lib.hid (HB.out.trans hb2)
  clear hg2 hb2 hz2
  go_wp2
  go_ret
  exact ⟨rfl, HG2.out, HB2.out, HZ2.out⟩
end Go.Proofs.Ytfekngnfjemgeaa.Clone
/- Blocks of a call's own, each known whole, no two the same. No program in it. -/
namespace Go.Proofs.Ytfekngnfjemgeaa.Owned
open Go Go.RowKit
open Tab Copy
structure Blk where
  at_ : Nat
  cells : List Value
  type : TypeId
def Own (B : Nat) (w : World) (L : List Blk) : Prop := (L.map Blk.at_).Nodup ∧ ∀ x ∈ L, B ≤ x.at_ ∧ w.heap[x.at_]? = some (.cells x.cells.toArray x.type (0, 0))
variable {B : Nat} {w w' : World} {L M : List Blk} {x : Blk}
theorem Own.nil : Own B w [] := ⟨by simp, fun x h => by simp at h⟩
theorem Own.get (h : Own B w L) (hx : x ∈ L) : w.heap[x.at_]? = some (.cells x.cells.toArray x.type (0, 0)) := (h.2 x hx).2
theorem Own.base (h : Own B w L) (hx : x ∈ L) : B ≤ x.at_ := (h.2 x hx).1
theorem Own.lt (h : Own B w L) (hx : x ∈ L) : x.at_ < w.heap.size := (Array.getElem?_eq_some_iff.1 (h.get hx)).1
theorem Own.step (h : Own B w L) (hb : Below w.heap.size w w') : Own B w' L := ⟨h.1, fun x hx => ⟨h.base hx, by rw [hb.block _ (h.lt hx)]; exact h.get hx⟩⟩
theorem Own.same (h : Own B w L) (hs : w'.heap = w.heap) : Own B w' L := ⟨h.1, fun x hx => ⟨h.base hx, by rw [hs]; exact h.get hx⟩⟩
theorem Own.perm (h : Own B w L) (hp : M.Perm L) : Own B w M := ⟨(hp.map Blk.at_).nodup_iff.2 h.1, fun x hx => h.2 x (hp.mem_iff.1 hx)⟩
theorem Own.tail (h : Own B w (x :: L)) : Own B w L := ⟨(List.nodup_cons.1 h.1).2, fun y hy => h.2 y (List.mem_cons_of_mem _ hy)⟩
/-- A new block. -/
theorem Own.add (h : Own B w L) (hb : Below w.heap.size w w') {g : Nat} {cs : List Value} {t : TypeId} (hg : w'.heap[g]? = some (.cells cs.toArray t (0, 0))) (hn : w.heap.size ≤ g) (hB : B ≤ w.heap.size) : Own B w' (⟨g, cs, t⟩ :: L) := by
  refine ⟨List.nodup_cons.2 ⟨fun hm => ?_, h.1⟩, fun y hy => ?_⟩
  · obtain ⟨y, hy, e⟩ := List.mem_map.1 hm
    have := h.lt hy
    have e' : y.at_ = g := e
    omega
  · rcases List.mem_cons.1 hy with rfl | hy
    · exact ⟨Nat.le_trans hB hn, hg⟩
    · exact (h.step hb).2 y hy
/-- The first block is written. -/
theorem Own.write (h : Own B w (x :: L)) {cs : List Value} (hg : w'.heap[x.at_]? = some (.cells cs.toArray x.type (0, 0))) (ho : ∀ j, j ≠ x.at_ → w'.heap[j]? = w.heap[j]?) : Own B w' (⟨x.at_, cs, x.type⟩ :: L) := by
  have hx := (List.nodup_cons.1 h.1).1
  refine ⟨List.nodup_cons.2 ⟨hx, (List.nodup_cons.1 h.1).2⟩, fun y hy => ?_⟩
  rcases List.mem_cons.1 hy with rfl | hy
  · exact ⟨(h.base (x := x) (List.mem_cons_self ..) : B ≤ x.at_), hg⟩
  · have hne : y.at_ ≠ x.at_ := fun e => hx (List.mem_map.2 ⟨y, hy, e⟩)
    exact ⟨h.base (List.mem_cons_of_mem _ hy), by rw [ho _ hne]; exact h.get (List.mem_cons_of_mem _ hy)⟩
theorem Own.write_row (h : Own B w (x :: L)) (cs : List Value) : Own B (w.setRow x.at_ cs.toArray) (⟨x.at_, cs, x.type⟩ :: L) :=
  h.write (setRow_heap _ _ _ _ _ _ (h.get (List.mem_cons_self ..))) (fun j hj => setRow_other _ _ _ _ hj)
theorem Own.write_cell (h : Own B w (x :: L)) (i : Nat) (v : Value) : Own B (w.setCell ⟨x.at_, i, none⟩ v) (⟨x.at_, x.cells.set i v, x.type⟩ :: L) := by
  refine h.write ?_ (fun j hj => heap_setCell_other _ _ _ _ hj)
  rw [heap_setCell_same _ _ _ _ _ _ (h.get (List.mem_cons_self ..))]
  congr 2
  simp
/-- Block number i of the list is written. -/
theorem Own.write_at {i : Nat} (h : Own B w L) (hx : L[i]? = some x) {cs : List Value} (hg : w'.heap[x.at_]? = some (.cells cs.toArray x.type (0, 0))) (ho : ∀ j, j ≠ x.at_ → w'.heap[j]? = w.heap[j]?) : Own B w' (L.set i ⟨x.at_, cs, x.type⟩) := by
  have hi : i < L.length := (List.getElem?_eq_some_iff.1 hx).1
  have hxi : L[i] = x := (List.getElem?_eq_some_iff.1 hx).2
  have hm : (L.set i ⟨x.at_, cs, x.type⟩).map Blk.at_ = L.map Blk.at_ := by
    rw [List.map_set]
    apply List.ext_getElem?
    intro j
    rw [List.getElem?_set]
    split
    · rename_i e
      subst e
      simp [hi, hxi]
    · rfl
  refine ⟨by rw [hm]; exact h.1, fun y hy => ?_⟩
  obtain ⟨j, hj⟩ := List.getElem?_of_mem hy
  rw [List.getElem?_set] at hj
  split at hj
  · rename_i e
    subst e
    obtain rfl := Option.some.inj hj
    exact ⟨(h.base (x := x) (List.mem_of_getElem? hx) : B ≤ x.at_), hg⟩
  · rename_i e
    have hyL := List.mem_of_getElem? hj
    have hne : y.at_ ≠ x.at_ := fun e' => by
      have h1 : (L.map Blk.at_)[j]? = some y.at_ := by rw [List.getElem?_map, hj]; rfl
      have h2 : (L.map Blk.at_)[i]? = some x.at_ := by rw [List.getElem?_map, hx]; rfl
      have hjl := (List.getElem?_eq_some_iff.1 h1).1
      have hil := (List.getElem?_eq_some_iff.1 h2).1
      have e1 := (List.getElem?_eq_some_iff.1 h1).2
      have e2 := (List.getElem?_eq_some_iff.1 h2).2
      have hp := List.pairwise_iff_getElem.1 h.1
      rcases Nat.lt_trichotomy i j with h3 | h3 | h3
      · exact hp i j hil hjl h3 (by rw [e1, e2, e'])
      · exact e h3
      · exact hp j i hjl hil h3 (by rw [e1, e2, e'])
    exact ⟨h.base hyL, by rw [ho _ hne]; exact h.get hyL⟩
theorem Own.row_at {i : Nat} (h : Own B w L) (hx : L[i]? = some x) (cs : List Value) : Own B (w.setRow x.at_ cs.toArray) (L.set i ⟨x.at_, cs, x.type⟩) :=
  h.write_at hx (setRow_heap _ _ _ _ _ _ (h.get (List.mem_of_getElem? hx))) (fun j hj => setRow_other _ _ _ _ hj)
theorem Own.cell_at {i : Nat} (h : Own B w L) (hx : L[i]? = some x) (o : Nat) (v : Value) : Own B (w.setCell ⟨x.at_, o, none⟩ v) (L.set i ⟨x.at_, x.cells.set o v, x.type⟩) := by
  refine h.write_at hx ?_ (fun j hj => heap_setCell_other _ _ _ _ hj)
  rw [heap_setCell_same _ _ _ _ _ _ (h.get (List.mem_of_getElem? hx))]
  congr 2
  simp
theorem Own.cell (h : Own B w L) (hx : x ∈ L) (i : Nat) : w.cell? ⟨x.at_, i, none⟩ = x.cells[i]? := by
  rw [cell_of_row _ _ _ _ _ _ (h.get hx)]; simp
theorem Own.frozen (h : Own B w L) (hx : x ∈ L) (i : Nat) : w.frozen? ⟨x.at_, i, none⟩ = false := frozen_of_row _ _ _ _ _ (h.get hx)
/-- What is below B stays as it is when one's own is written. -/
theorem below_write {a : World} (hb : Below B a w) {g i : Nat} (hg : B ≤ g) (v : Value) : Below B a (w.setCell ⟨g, i, none⟩ v) := hb.setCell (p := ⟨g, i, none⟩) hg v
end Go.Proofs.Ytfekngnfjemgeaa.Owned
/- The contract of table.Clone, at any table whose lists are not beyond measure: the same data, in blocks of its own. -/
namespace Go.Proofs.Ytfekngnfjemgeaa.Clone
open Go.ChangeShapes Go.WideShapes Go.ChangeAt Go.RowKit
open Tab Copy Owned
open May (chain infoP infoG infoD infoR infoB infoT)
set_option linter.unusedVariables false
set_option linter.unusedSimpArgs false

/-- A group whose rows are blocks of their own. -/
structure NG where
  r0 : List Int
  r1 : List Int
  b0 : Nat
  b1 : Nat
def NG.gr (g : NG) : Gr := ⟨g.r0, g.r1, ⟨some ⟨g.b0, 0, none⟩, g.r0.length⟩, ⟨some ⟨g.b1, 0, none⟩, g.r1.length⟩⟩
def NG.blks (g : NG) : List Blk := [⟨g.b0, g.r0.flatMap (fun n => [I n]), 3⟩, ⟨g.b1, g.r1.flatMap (fun n => [I n]), 3⟩]
structure Small (T : Tab) : Prop where
  groups : T.groups.length ≤ 1000
  rows : ∀ g ∈ T.groups, g.1.length ≤ 1000 ∧ g.2.length ≤ 1000
  dets : T.dets.length ≤ 1000
  rails : T.rails.length ≤ 1000
  buses : T.buses.length ≤ 1000

abbrev at0 (g n : Nat) : Sl := ⟨some ⟨g, 0, none⟩, n⟩
/-- Where a clone's parts lie. -/
def own (T : Tab) (ns : List NG) (G D R S : Nat) : List Blk :=
  ⟨G, (ns.map NG.gr).flatMap Gr.cells, 36⟩ :: ⟨D, T.dets.flatMap Det.cells, 39⟩ :: ⟨R, T.rails.flatMap Rl.cells, 41⟩ :: ⟨S, T.buses.flatMap Bs.cells, 43⟩ :: ns.flatMap NG.blks
def hd (T : Tab) (G D R S : Nat) : Hd := ⟨at0 G T.groups.length, at0 D T.dets.length, at0 R T.rails.length, at0 S T.buses.length⟩

theorem ng_ok {B : Nat} {w : World} {L : List Blk} {ns : List NG} (h : Own B w L) (hs : ∀ x ∈ ns.flatMap NG.blks, x ∈ L) (hl : ∀ g ∈ ns, g.r0.length ≤ maxLen ∧ g.r1.length ≤ maxLen) : ∀ g ∈ ns.map NG.gr, g.ok w := by
  intro g hg
  obtain ⟨n, hn, rfl⟩ := List.mem_map.1 hg
  have h0 := h.get (hs ⟨n.b0, n.r0.flatMap (fun n => [I n]), 3⟩ (List.mem_flatMap.2 ⟨n, hn, by simp [NG.blks]⟩))
  have h1 := h.get (hs ⟨n.b1, n.r1.flatMap (fun n => [I n]), 3⟩ (List.mem_flatMap.2 ⟨n, hn, by simp [NG.blks]⟩))
  exact ⟨row_of_block (n := 1) (enc := fun n => [I n]) (fun _ => rfl) _ h0 (hl n hn).1, row_of_block (n := 1) (enc := fun n => [I n]) (fun _ => rfl) _ h1 (hl n hn).2⟩
section
variable {T : Tab} {ns : List NG} {G D R S : Nat}
theorem own_g : (⟨G, (ns.map NG.gr).flatMap Gr.cells, 36⟩ : Blk) ∈ own T ns G D R S := List.mem_cons_self ..
theorem own_d : (⟨D, T.dets.flatMap Det.cells, 39⟩ : Blk) ∈ own T ns G D R S := List.mem_cons_of_mem _ (List.mem_cons_self ..)
theorem own_r : (⟨R, T.rails.flatMap Rl.cells, 41⟩ : Blk) ∈ own T ns G D R S := List.mem_cons_of_mem _ (List.mem_cons_of_mem _ (List.mem_cons_self ..))
theorem own_s : (⟨S, T.buses.flatMap Bs.cells, 43⟩ : Blk) ∈ own T ns G D R S := List.mem_cons_of_mem _ (List.mem_cons_of_mem _ (List.mem_cons_of_mem _ (List.mem_cons_self ..)))
end
/-- What a clone is. -/
theorem is_tab {B : Nat} {w : World} {T : Tab} {ns : List NG} {G D R S : Nat} (h1 : T.phases.length = 8) (h2 : T.conflict.length = 8) (h3 : T.flash.length = 8) (sm : Small T) (hd' : ns.map (fun g => (g.r0, g.r1)) = T.groups) (h : Own B w (own T ns G D R S)) : IsTab w (hd T G D R S) T := by
  have hm : (1000 : Nat) ≤ maxLen := by decide
  have hnl : ns.length = T.groups.length := by rw [← hd', List.length_map]
  refine ⟨h1, h2, h3, ⟨ns.map NG.gr, ?_, ?_, ?_⟩, ?_, ?_, ?_⟩
  · rw [← hd', List.map_map]; rfl
  · have := row_of_block (n := 2) (enc := Gr.cells) (fun _ => rfl) (ns.map NG.gr) (h.get own_g) (by rw [List.length_map, hnl]; exact Nat.le_trans sm.groups hm)
    rwa [List.length_map, hnl] at this
  · refine ng_ok h (fun x hx => by simp only [own, List.mem_cons]; exact .inr (.inr (.inr (.inr hx)))) (fun g hg => ?_)
    have := sm.rows (g.r0, g.r1) (by rw [← hd']; exact List.mem_map.2 ⟨g, hg, rfl⟩)
    exact ⟨Nat.le_trans this.1 hm, Nat.le_trans this.2 hm⟩
  · exact row_of_block (n := 7) (enc := Det.cells) (fun _ => rfl) _ (h.get own_d) (Nat.le_trans sm.dets hm)
  · exact row_of_block (n := 11) (enc := Rl.cells) (fun _ => rfl) _ (h.get own_r) (Nat.le_trans sm.rails hm)
  · exact row_of_block (n := 2) (enc := Bs.cells) (fun _ => rfl) _ (h.get own_s) (Nat.le_trans sm.buses hm)

/-! ### a table's cells, with a list moved -/
structure Eights (T : Tab) : Prop where
  p : T.phases.length = 8
  c : T.conflict.length = 8
  f : T.flash.length = 8
set_option maxRecDepth 10000 in
theorem Eights.tab {T : Tab} (k : Eights T) (h : Hd) (w : World) : CellsOk T h (T.cells h).toArray := by
  have h0 : IsTab w ⟨⟨none, 0⟩, ⟨none, 0⟩, ⟨none, 0⟩, ⟨none, 0⟩⟩ { T with groups := [], dets := [], rails := [], buses := [] } :=
    ⟨k.p, k.c, k.f, ⟨[], rfl, RowOf.nil w, fun g hg => by simp at hg⟩, RowOf.nil w, RowOf.nil w, RowOf.nil w⟩
  have := cells_ok h0
  obtain ⟨p0, p1, p2, p3, p4, p5, p6, p7, hp⟩ := eight k.p
  obtain ⟨c0, c1, c2, c3, c4, c5, c6, c7, hc⟩ := eight k.c
  obtain ⟨f0, f1, f2, f3, f4, f5, f6, f7, hf⟩ := eight k.f
  clear k
  obtain ⟨phases, groups, conflict, dets, rails, buses, extend, budget, start, revert, least, flash, window, share⟩ := T
  simp only at hp hc hf
  subst hp hc hf
  clear this h0
  constructor
  all_goals try rfl
  case one => simp [Tab.cells, Ph.cells, Value.oneCell']
  intro i p hp
  match i, hp with
  | 0, hp | 1, hp | 2, hp | 3, hp | 4, hp | 5, hp | 6, hp | 7, hp =>
    obtain rfl := Option.some.inj hp
    rfl
  | i + 8, hp => cases hp
theorem set_g {T : Tab} (k : Eights T) (h : Hd) (s : Sl) : (T.cells h).set 104 (s.val T.groups.length) = T.cells { h with g := s } := by
  obtain ⟨p0, p1, p2, p3, p4, p5, p6, p7, hp⟩ := eight k.p
  obtain ⟨phases, groups, conflict, dets, rails, buses, extend, budget, start, revert, least, flash, window, share⟩ := T
  simp only at hp
  subst hp
  rfl
theorem set_d {T : Tab} (k : Eights T) (h : Hd) (s : Sl) : (T.cells h).set 113 (s.val T.dets.length) = T.cells { h with d := s } := by
  obtain ⟨p0, p1, p2, p3, p4, p5, p6, p7, hp⟩ := eight k.p
  obtain ⟨c0, c1, c2, c3, c4, c5, c6, c7, hc⟩ := eight k.c
  obtain ⟨phases, groups, conflict, dets, rails, buses, extend, budget, start, revert, least, flash, window, share⟩ := T
  simp only at hp hc
  subst hp hc
  rfl
theorem set_r {T : Tab} (k : Eights T) (h : Hd) (s : Sl) : (T.cells h).set 114 (s.val T.rails.length) = T.cells { h with r := s } := by
  obtain ⟨p0, p1, p2, p3, p4, p5, p6, p7, hp⟩ := eight k.p
  obtain ⟨c0, c1, c2, c3, c4, c5, c6, c7, hc⟩ := eight k.c
  obtain ⟨phases, groups, conflict, dets, rails, buses, extend, budget, start, revert, least, flash, window, share⟩ := T
  simp only at hp hc
  subst hp hc
  rfl
theorem set_b {T : Tab} (k : Eights T) (h : Hd) (s : Sl) : (T.cells h).set 115 (s.val T.buses.length) = T.cells { h with b := s } := by
  obtain ⟨p0, p1, p2, p3, p4, p5, p6, p7, hp⟩ := eight k.p
  obtain ⟨c0, c1, c2, c3, c4, c5, c6, c7, hc⟩ := eight k.c
  obtain ⟨phases, groups, conflict, dets, rails, buses, extend, budget, start, revert, least, flash, window, share⟩ := T
  simp only at hp hc
  subst hp hc
  rfl
/-- The zero table. -/
def zPh : Ph := ⟨false, 0, 0, 0, 0, 0, 0, 0, 0, 0, 0, false, false⟩
def zTab : Tab := ⟨List.replicate 8 zPh, [], List.replicate 8 0, [], [], [], 0, 0, 0, 0, 0, List.replicate 8 0, 0, 0⟩
def zHd : Hd := ⟨⟨none, 0⟩, ⟨none, 0⟩, ⟨none, 0⟩, ⟨none, 0⟩⟩
theorem info31 : (Try.prog.info? 32).map (fun i => (i.zero, i.size)) = some (some (.agg (zTab.cells zHd).toArray), 131) := by kernel_rfl
theorem z_is (w : World) : IsTab w zHd zTab := ⟨rfl, rfl, rfl, ⟨[], rfl, RowOf.nil w, fun g hg => by simp at hg⟩, RowOf.nil w, RowOf.nil w, RowOf.nil w⟩
end Go.Proofs.Ytfekngnfjemgeaa.Clone
/- The contract of table.Clone: the walk. -/
namespace Go.Proofs.Ytfekngnfjemgeaa.Clone
open Go.ChangeShapes Go.WideShapes Go.ChangeAt Go.RowKit
open Tab Copy Owned
open May (chain infoP infoG infoD infoR infoB infoT take_succ')
set_option linter.unusedVariables false
set_option linter.unusedSimpArgs false

/-- The groups' block while it is being filled. -/
def mix (ns : List NG) (gs : List Gr) (k : Nat) : List Gr := ns.map NG.gr ++ gs.drop k
theorem mix_at {ns : List NG} {gs : List Gr} {k : Nat} {v : Gr} (hn : ns.length = k) (hv : gs[k]? = some v) : (mix ns gs k)[k]? = some v := by
  unfold mix
  rw [List.getElem?_append_right (by rw [List.length_map]; omega), List.length_map, hn, Nat.sub_self, List.getElem?_drop, Nat.add_zero, hv]
theorem mix_next {ns : List NG} {gs : List Gr} {k : Nat} {v : Gr} (n : NG) (hn : ns.length = k) (hv : gs[k]? = some v) :
    ((mix ns gs k).flatMap Gr.cells).take (k * 2) ++ n.gr.cells ++ ((mix ns gs k).flatMap Gr.cells).drop (k * 2 + 2) = (mix (ns ++ [n]) gs (k + 1)).flatMap Gr.cells := by
  have hk : k < gs.length := (List.getElem?_eq_some_iff.1 hv).1
  have hl : ((ns.map NG.gr).flatMap Gr.cells).length = k * 2 := by rw [flat_len (n := 2) (enc := Gr.cells) (fun _ => rfl), List.length_map, hn]
  have hd : gs.drop k = v :: gs.drop (k + 1) := by
    rw [List.drop_eq_getElem_cons hk]; congr 1
    exact (List.getElem?_eq_some_iff.1 hv).2
  unfold mix
  rw [hd, List.flatMap_append, List.flatMap_cons, List.take_left' hl, List.map_append, List.flatMap_append, List.flatMap_append]
  rw [show k * 2 + 2 = ((ns.map NG.gr).flatMap Gr.cells).length + v.cells.length by rw [hl]; rfl, ← List.append_assoc, List.drop_left' (by rw [List.length_append])]
  simp
def LL (T : Tab) (h1 : Hd) (N G : Nat) (zs : List Value) (ns : List NG) (gs : List Gr) (k : Nat) : List Blk :=
  ⟨G, (mix ns gs k).flatMap Gr.cells, 36⟩ :: ⟨N, T.cells h1, 32⟩ :: ⟨N + 1, zs, 32⟩ :: ns.flatMap NG.blks
theorem perm_next {T : Tab} {h1 : Hd} {N G : Nat} {zs : List Value} {ns : List NG} {gs : List Gr} {k : Nat} {cs : List Value} (n : NG) (e : cs = (mix (ns ++ [n]) gs (k + 1)).flatMap Gr.cells) :
    (LL T h1 N G zs (ns ++ [n]) gs (k + 1)).Perm (⟨G, cs, 36⟩ :: ⟨n.b1, n.r1.flatMap (fun n => [I n]), 3⟩ :: ⟨n.b0, n.r0.flatMap (fun n => [I n]), 3⟩ :: ⟨N, T.cells h1, 32⟩ :: ⟨N + 1, zs, 32⟩ :: ns.flatMap NG.blks) := by
  subst e
  unfold LL
  rw [List.flatMap_append, show List.flatMap NG.blks [n] = [⟨n.b0, n.r0.flatMap (fun n => [I n]), 3⟩, ⟨n.b1, n.r1.flatMap (fun n => [I n]), 3⟩] from rfl]
  refine List.Perm.cons _ ?_
  generalize (⟨n.b0, _, _⟩ : Blk) = x0
  generalize (⟨n.b1, _, _⟩ : Blk) = x1
  generalize (⟨N, _, _⟩ : Blk) = y0
  generalize (⟨N + 1, _, _⟩ : Blk) = y1
  generalize ns.flatMap NG.blks = L
  have a1 : (y0 :: y1 :: (L ++ [x0, x1])).Perm ([x0, x1] ++ (y0 :: y1 :: L)) := (List.perm_append_comm (l₁ := y0 :: y1 :: L) (l₂ := [x0, x1]))
  exact a1.trans (List.Perm.swap _ _ _)
/-- The phases of the region that fills one group. -/
def D5 (w : World) (B M : Nat) (L0 L1 L2 L3 : List Blk) (q : Nat) (w' : World) : Prop :=
  Below B w w' ∧ match q with
    | 0 => Own B w' L0 ∧ w'.heap.size = M + 1
    | 1 => Own B w' L1 ∧ w'.heap.size = M + 1 + 1
    | 2 => Own B w' L2 ∧ w'.heap.size = M + 1 + 1 + 1
    | _ => Own B w' L3
theorem D5.get {w w' : World} {B M q : Nat} {L0 L1 L2 L3 : List Blk} {x : Blk} (h : D5 w B M L0 L1 L2 L3 q w') (h0 : x ∈ L0) (h1 : x ∈ L1) (h2 : x ∈ L2) (h3 : x ∈ L3) : w'.heap[x.at_]? = some (.cells x.cells.toArray x.type (0, 0)) := by
  match q, h with
  | 0, ⟨_, h, _⟩ => exact h.get h0
  | 1, ⟨_, h, _⟩ => exact h.get h1
  | 2, ⟨_, h, _⟩ => exact h.get h2
  | _ + 3, ⟨_, h⟩ => exact h.get h3
theorem fresh_link {w w' : World} {sz : Nat} {L : List Blk} {a : Option Addr} {cap : Nat} {l : List Int} (hb : Below w.heap.size w w') (ho : Own w.heap.size w' L) (hs : w'.heap.size = sz) (hr : IntRow w ⟨a, cap⟩ l) (hl : l.length ≤ 1000) :
    Calls Try.prog 25 #[.slice a l.length cap] w' fun e w'' => e = .returned (.slice (some ⟨sz, 0, none⟩) l.length l.length) ∧ Below w.heap.size w w'' ∧ Own w.heap.size w'' (⟨sz, l.flatMap (fun n => [I n]), 3⟩ :: L) ∧ w''.heap.size = sz + 1 := by
  subst hs
  refine (freshI_any a cap l w' (hr.below hb) hl).mono ?_
  rintro e w'' ⟨rfl, hg, hb2, hz⟩
  exact ⟨rfl, hb.trans (hb2.mono hb.size), ho.add hb2 hg (Nat.le_refl _) hb.size, hz⟩
theorem mix_len {ns : List NG} {gs : List Gr} {k : Nat} (hn : ns.length = k) (hk : k ≤ gs.length) : ((mix ns gs k).flatMap Gr.cells).length = gs.length * 2 := by
  rw [flat_len (n := 2) (enc := Gr.cells) (fun _ => rfl)]
  unfold mix
  rw [List.length_append, List.length_map, List.length_drop]
  omega
theorem store_link {w w' : World} {L : List Blk} {G k : Nat} {ns : List NG} {gs : List Gr} {v : Gr} (hb : Below w.heap.size w w') (ho : Own w.heap.size w' L) (hx : L[3]? = some ⟨G, (mix ns gs k).flatMap Gr.cells, 36⟩) (hn : ns.length = k) (hv : gs[k]? = some v) (n : NG) :
    ∃ w'', (Instr.storeAt 36 (.pointer (some ⟨G, k * 2, none⟩)) (.agg n.gr.cells.toArray)).run Try.prog w' = .ok () w'' ∧ Below w.heap.size w w'' ∧ Own w.heap.size w'' (L.set 3 ⟨G, (mix (ns ++ [n]) gs (k + 1)).flatMap Gr.cells, 36⟩) := by
  have hk : k < gs.length := (List.getElem?_eq_some_iff.1 hv).1
  have h1 := Row.run_storeAt_at (P := Try.prog) w' G (k * 2) 36 36 _ n.gr.cells.toArray (ho.get (List.mem_of_getElem? hx)) infoG (by rw [List.size_toArray]; show k * 2 + 2 ≤ ((mix ns gs k).flatMap Gr.cells).length; rw [mix_len hn (by omega)]; omega) (Gr.one _)
  have h2 := mix_next n hn hv
  rw [show (k * 2 + n.gr.cells.toArray.size) = k * 2 + 2 from rfl] at h1
  dsimp only at h1
  rw [h2] at h1
  exact ⟨_, h1, below_setRow hb (ho.base (List.mem_of_getElem? hx)) _, ho.row_at hx _⟩
set_option maxRecDepth 10000 in
set_option maxHeartbeats 8000000 in
theorem clone_any (T : Tab) (h : Hd) (w : World) (kt : IsTab w h T) (sm : Small T) :
    Calls Try.prog 7 #[.agg (T.cells h).toArray] w fun e w' => ∃ (ns : List NG) (G D R S : Nat), e = .returned (.agg (T.cells (hd T G D R S)).toArray) ∧ ns.map (fun g => (g.r0, g.r1)) = T.groups ∧ Own w.heap.size w' (own T ns G D R S) ∧ Below w.heap.size w w' := by
  have K8 := Lib.hid (Eights.mk kt.ph kt.cf kt.fl)
  have hz := (zero_of_info info31).1
  have hzs : (zTab.cells zHd).toArray.size = 131 := (cells_ok (z_is w)).size
  have HZ1 := Lib.hid hzs
  obtain ⟨gs, hgd, hgr⟩ := kt.groups
  have Hgd := Lib.hid hgd
  have hgl : gs.length = T.groups.length := by rw [← hgd, List.length_map]
  have Hgl := Lib.hid hgl
  have Kg := hgr.1.len
  have C := Lib.hid (cells_ok kt)
  have hcz := C.out.size
  unfold maxLen at Kg
  have SM := Lib.hid sm
  have hlg : gs.length ≤ 1000 := by rw [hgl]; exact sm.groups
  have Hkt := Lib.hid kt
  have Hgr := Lib.hid hgr
  clear hgr sm kt hgd hzs hgl
  generalize hzz : (zTab.cells zHd).toArray = Z at hz HZ1
  go_enter Try.func7, Try.ntmps7
  go_upto_region 1 with fail
  have b0 : Below w.heap.size w ((w.alloc (.cells (T.cells h).toArray 32)).alloc (.cells Z 32)) := ((Below.refl _ _).alloc (Nat.le_refl _) _).alloc (by simp) _
  have o0 : Own w.heap.size ((w.alloc (.cells (T.cells h).toArray 32)).alloc (.cells Z 32)) [⟨w.heap.size, T.cells h, 32⟩, ⟨w.heap.size + 1, Z.toList, 32⟩] :=
    ⟨by simp, fun x hx => by
      simp only [List.mem_cons, List.not_mem_nil, or_false] at hx
      rcases hx with rfl | rfl
      · exact ⟨Nat.le_refl _, heap_alloc2_old w _ _⟩
      · exact ⟨Nat.le_succ _, heap_alloc2_new w _ _⟩⟩
  have O0 := Lib.hid o0
  have B0 := Lib.hid b0
  clear o0 b0
  generalize (w.alloc (.cells (T.cells h).toArray 32)).alloc (.cells Z 32) = w1 at O0 B0 ⊢
  generalize (T.cells h).toArray = cs0 at C hcz ⊢
  clear hz hcz
  have c104 : w1.cell? ⟨w.heap.size, 104, none⟩ = some (.slice h.g.a gs.length h.g.cap) := by
    have e1 := (K8.out.tab h w).g
    rw [List.getElem?_toArray] at e1
    rw [O0.out.cell (x := ⟨w.heap.size, T.cells h, 32⟩) (List.mem_cons_self ..), Hgl.out]
    exact e1
  go_wp2_with fail
  refine (freshG_any h.g.a h.g.cap gs _ (Hgr.out.1.below B0.out) hlg).mono ?_
  rintro e w2 ⟨rfl, hg, hb, hsz⟩
  have O1 := Lib.hid (O0.out.add hb hg (Nat.le_refl _) B0.out.size)
  have B1 := Lib.hid (B0.out.trans (hb.mono B0.out.size))
  have c2 : w2.cell? ⟨w.heap.size, 104, none⟩ = some (.slice h.g.a gs.length h.g.cap) := (hb.cell (World.block_lt_of_cell? _ _ c104)).trans c104
  have f2 : w2.frozen? ⟨w.heap.size, 104, none⟩ = false := O1.out.frozen (x := ⟨w.heap.size, T.cells h, 32⟩) (List.mem_cons_of_mem _ (List.mem_cons_self ..)) 104
  clear hg hb hsz c104 O0
  generalize hG : w1.heap.size = G at O1 ⊢
  have HG := Lib.hid hG
  clear hG
  go_wp2_with fail
  have hset := set_g K8.out h (at0 G gs.length)
  rw [← Hgl.out] at hset
  have O3 := O1.out.cell_at (i := 1) (x := ⟨w.heap.size, T.cells h, 32⟩) rfl 104 (.slice (some ⟨G, 0, none⟩) gs.length gs.length)
  have B3 := Lib.hid (below_write B1.out (Nat.le_refl _) (i := 104) (.slice (some ⟨G, 0, none⟩) gs.length gs.length))
  dsimp only [List.set_cons_succ, List.set_cons_zero] at O3
  rw [hset] at O3
  have O3 : Hid (Own w.heap.size _ (LL T { h with g := at0 G gs.length } w.heap.size G Z.toList [] gs 0)) := O3
  generalize World.setCell w2 _ _ = w3 at O3 B3 ⊢
  clear hset c2 f2 O1 B1
  have hc1 := (K8.out.tab { h with g := at0 G gs.length } w)
  have H104 : Hid ((T.cells { h with g := at0 G gs.length })[104]? = some (.slice (some ⟨G, 0, none⟩) gs.length gs.length)) := by have := hc1.g; rw [List.getElem?_toArray] at this; rw [this]; show some (Value.slice (some ⟨G, 0, none⟩) T.groups.length gs.length) = _; rw [← Hgl.out]
  have H113 : Hid ((T.cells { h with g := at0 G gs.length })[113]? = some (h.d.val T.dets.length)) := by have := hc1.d; rwa [List.getElem?_toArray] at this
  clear hc1
  generalize hh1 : ({ h with g := at0 G gs.length } : Hd) = h1 at O3 H104 H113
  have Hh1 := Lib.hid hh1
  clear hh1
  go_loopw [12] (fun i wr => ∃ (k : Nat) (ns : List NG), k ≤ gs.length ∧ i = .int .i64 k ∧ ns.length = k ∧ ns.map (fun g => (g.r0, g.r1)) = (gs.take k).map Gr.data ∧ Own w.heap.size wr (LL T h1 w.heap.size G Z.toList ns gs k) ∧ Below w.heap.size w wr) (fun i _ => gs.length - (intOf i).toNat)
  case atStart => exact ⟨0, [], Nat.zero_le _, rfl, rfl, rfl, O3.out, B3.out⟩
  case round =>
    clear O3 B3
    obtain ⟨k, ns, hk, rfl, hnl, hnd, ho, hb⟩ := hrel
    have O3 := Lib.hid ho
    have B3 := Lib.hid hb
    have ND := Lib.hid hnd
    have NL := Lib.hid hnl
    clear ho hb hnd hnl
    by_cases hlt : k < gs.length
    · have hv := List.getElem?_eq_getElem hlt
      generalize gs[k] = v at hv
      have HV := Lib.hid hv
      have hok := Hgr.out.2 v (List.mem_of_getElem? hv)
      have hsm := SM.out.rows v.data (by rw [← Hgd.out]; exact List.mem_map.2 ⟨v, List.mem_of_getElem? hv, rfl⟩)
      have HC : Hid (Lies wr ⟨G, k * 2, none⟩ v.cells) := fun j u hu => by
        rw [Addr.add_mid, cell_of_row _ _ _ _ _ _ (O3.out.get (List.mem_cons_self ..)), List.getElem?_toArray]
        exact flat_at (n := 2) (enc := Gr.cells) (fun _ => rfl) _ k v j u (mix_at NL.out hv) hu
      obtain ⟨l0, l1, ⟨a0, cap0⟩, ⟨a1, cap1⟩⟩ := v
      have H0 := Lib.hid hok.1
      have H1 := Lib.hid hok.2
      have S0 := Lib.hid hsm.1
      have S1 := Lib.hid hsm.2
      clear hv hok hsm
      go_wp2_with (first | (refine Row.wpList_load_lies rfl 36 _ rfl ⟨G, k * 2, none⟩ rfl (Gr.mk l0 l1 ⟨a0, cap0⟩ ⟨a1, cap1⟩).cells _ HC.out Try.underlying36 rfl infoG ?_) | (refine Row.wpList_store_new rfl 36 _ _ rfl _ _ (Gr.mk l0 l1 ⟨a0, cap0⟩ ⟨a1, cap1⟩).cells.toArray rfl rfl rfl infoG rfl (Gr.one _) ?_))
      have hbw : Below wr.heap.size wr (wr.alloc (.cells (Gr.mk l0 l1 ⟨a0, cap0⟩ ⟨a1, cap1⟩).cells.toArray 36)) := (Below.refl _ _).alloc (Nat.le_refl _) _
      have B4 := Lib.hid (B3.out.trans (hbw.mono B3.out.size))
      have O4 := Lib.hid (O3.out.add hbw (heap_alloc_new wr _) (Nat.le_refl _) B3.out.size)
      have HZ4 : Hid ((wr.alloc (.cells (Gr.mk l0 l1 ⟨a0, cap0⟩ ⟨a1, cap1⟩).cells.toArray 36)).heap.size = wr.heap.size + 1) := by show _ = _; simp
      clear hbw
      generalize wr.alloc (.cells (Gr.mk l0 l1 ⟨a0, cap0⟩ ⟨a1, cap1⟩).cells.toArray 36) = w4 at B4 O4 HZ4 ⊢
      generalize wr.heap.size = M at O4 HZ4 ⊢
      clear O3 B3 HC
      have HB5 : Hid (D5 w w.heap.size M (⟨M, (Gr.mk l0 l1 ⟨a0, cap0⟩ ⟨a1, cap1⟩).cells, 36⟩ :: LL T h1 w.heap.size G Z.toList ns gs k) (⟨M + 1, l0.flatMap (fun n => [I n]), 3⟩ :: ⟨M, (Gr.mk l0 l1 ⟨a0, cap0⟩ ⟨a1, cap1⟩).cells, 36⟩ :: LL T h1 w.heap.size G Z.toList ns gs k) (⟨M + 1 + 1, l1.flatMap (fun n => [I n]), 3⟩ :: ⟨M + 1, l0.flatMap (fun n => [I n]), 3⟩ :: ⟨M, (Gr.mk l0 l1 ⟨a0, cap0⟩ ⟨a1, cap1⟩).cells, 36⟩ :: LL T h1 w.heap.size G Z.toList ns gs k) (⟨M + 1 + 1, l1.flatMap (fun n => [I n]), 3⟩ :: ⟨M + 1, l0.flatMap (fun n => [I n]), 3⟩ :: ⟨M, (Gr.mk l0 l1 ⟨a0, cap0⟩ ⟨a1, cap1⟩).cells, 36⟩ :: ⟨G, (mix (ns ++ [⟨l0, l1, M + 1, M + 1 + 1⟩]) gs (k + 1)).flatMap Gr.cells, 36⟩ :: ⟨w.heap.size, T.cells h1, 32⟩ :: ⟨w.heap.size + 1, Z.toList, 32⟩ :: ns.flatMap NG.blks) 0 w4.drew) := ⟨B4.out.drew, O4.out.same rfl, HZ4.out⟩
      generalize hD : D5 w w.heap.size M (⟨M, (Gr.mk l0 l1 ⟨a0, cap0⟩ ⟨a1, cap1⟩).cells, 36⟩ :: LL T h1 w.heap.size G Z.toList ns gs k) (⟨M + 1, l0.flatMap (fun n => [I n]), 3⟩ :: ⟨M, (Gr.mk l0 l1 ⟨a0, cap0⟩ ⟨a1, cap1⟩).cells, 36⟩ :: LL T h1 w.heap.size G Z.toList ns gs k) (⟨M + 1 + 1, l1.flatMap (fun n => [I n]), 3⟩ :: ⟨M + 1, l0.flatMap (fun n => [I n]), 3⟩ :: ⟨M, (Gr.mk l0 l1 ⟨a0, cap0⟩ ⟨a1, cap1⟩).cells, 36⟩ :: LL T h1 w.heap.size G Z.toList ns gs k) (⟨M + 1 + 1, l1.flatMap (fun n => [I n]), 3⟩ :: ⟨M + 1, l0.flatMap (fun n => [I n]), 3⟩ :: ⟨M, (Gr.mk l0 l1 ⟨a0, cap0⟩ ⟨a1, cap1⟩).cells, 36⟩ :: ⟨G, (mix (ns ++ [⟨l0, l1, M + 1, M + 1 + 1⟩]) gs (k + 1)).flatMap Gr.cells, 36⟩ :: ⟨w.heap.size, T.cells h1, 32⟩ :: ⟨w.heap.size + 1, Z.toList, 32⟩ :: ns.flatMap NG.blks) = D at HB5
      have HD := Lib.hid hD
      have HM : Hid (∀ p : Ph.S D, p.world.heap[M]? = some (.cells (Gr.mk l0 l1 ⟨a0, cap0⟩ ⟨a1, cap1⟩).cells.toArray 36 (0, 0))) := by
        intro p
        have hp := Eq.mpr (congrFun (congrFun hD p.ph) p.world) p.is
        exact D5.get (x := ⟨M, (Gr.mk l0 l1 ⟨a0, cap0⟩ ⟨a1, cap1⟩).cells, 36⟩) hp (List.mem_cons_self ..) (List.mem_cons_of_mem _ (List.mem_cons_self ..)) (List.mem_cons_of_mem _ (List.mem_cons_of_mem _ (List.mem_cons_self ..))) (List.mem_cons_of_mem _ (List.mem_cons_of_mem _ (List.mem_cons_self ..)))
      have hn104 : ∀ p : Ph.S D, p.world.cell? ⟨w.heap.size, 104, none⟩ = some (.slice (some ⟨G, 0, none⟩) gs.length gs.length) := by
        intro p
        have hp := Eq.mpr (congrFun (congrFun hD p.ph) p.world) p.is
        have h2 : (⟨w.heap.size, T.cells h1, 32⟩ : Blk) ∈ LL T h1 w.heap.size G Z.toList ns gs k := List.mem_cons_of_mem _ (List.mem_cons_self ..)
        have h3 := D5.get (x := ⟨w.heap.size, T.cells h1, 32⟩) hp (List.mem_cons_of_mem _ h2) (List.mem_cons_of_mem _ (List.mem_cons_of_mem _ h2)) (List.mem_cons_of_mem _ (List.mem_cons_of_mem _ (List.mem_cons_of_mem _ h2))) (List.mem_cons_of_mem _ (List.mem_cons_of_mem _ (List.mem_cons_of_mem _ (List.mem_cons_of_mem _ (List.mem_cons_self ..)))))
        rw [cell_of_row _ _ _ _ _ _ h3, List.getElem?_toArray]
        exact H104.out
      have hm0 : ∀ p : Ph.S D, p.world.cell? ⟨M, 0, none⟩ = some (.slice a0 l0.length cap0) := fun p => by rw [cell_of_row _ _ _ _ _ _ (HM.out p)]; rfl
      have hm1 : ∀ p : Ph.S D, p.world.cell? ⟨M, 1, none⟩ = some (.slice a1 l1.length cap1) := fun p => by rw [cell_of_row _ _ _ _ _ _ (HM.out p)]; rfl
      have hne : Nonempty (Ph.S D) := ⟨⟨0, _, HB5.out⟩⟩
      clear hD
      refine Ph.wp_region_ph D [5, 8, 11] (by kernel_rfl) (by kernel_rfl) HB5.out ?_
      iterate 5
        (refine Ph.wpPh_calm rfl (fun K hK => ?_)
         go_simp
         refine hK _ ?_
         clear hK K)
      refine Ph.wpPh_link (p := 0) rfl (fun K hK => ?_)
      go_simp
      refine ⟨_, fun w' hd => (by rw [← HD.out] at hd ⊢; exact fresh_link hd.1 hd.2.1 hd.2.2 H0.out S0.out), hK _ ?_⟩
      clear hK K
      iterate 2
        (refine Ph.wpPh_calm rfl (fun K hK => ?_)
         go_simp
         refine hK _ ?_
         clear hK K)
      refine Ph.wpPh_link (p := 1) rfl (fun K hK => ?_)
      go_simp
      refine ⟨_, fun w' hd => (by rw [← HD.out] at hd ⊢; exact fresh_link hd.1 hd.2.1 hd.2.2 H1.out S1.out), hK _ ?_⟩
      clear hK K
      iterate 2
        (refine Ph.wpPh_calm rfl (fun K hK => ?_)
         go_simp
         refine hK _ ?_
         clear hK K)
      refine Row.wpPh_store (p := 2) rfl rfl 36 _ _ rfl (.pointer (some ⟨G, k * 2, none⟩)) (.agg (NG.mk l0 l1 (M + 1) (M + 1 + 1)).gr.cells.toArray) rfl rfl (fun w' hd => ?_) ?_
      · rw [← HD.out] at hd ⊢
        exact store_link hd.1 hd.2.1 rfl NL.out HV.out (NG.mk l0 l1 (M + 1) (M + 1 + 1))
      refine Ph.wpPh_nil ?_
      intro w5 hd5
      have B5 : Hid (Below w.heap.size w w5 ∧ Own w.heap.size w5 (LL T h1 w.heap.size G Z.toList (ns ++ [NG.mk l0 l1 (M + 1) (M + 1 + 1)]) gs (k + 1))) := by
        rw [← HD.out] at hd5
        refine ⟨hd5.1, ?_⟩
        have ho : Own w.heap.size w5 _ := hd5.2
        refine (ho.perm (M := ⟨M, (Gr.mk l0 l1 ⟨a0, cap0⟩ ⟨a1, cap1⟩).cells, 36⟩ :: _) (List.Perm.trans ?_ (List.perm_middle (l₁ := [_, _]) (l₂ := _)).symm)).tail
        exact List.Perm.cons _ ((perm_next (NG.mk l0 l1 (M + 1) (M + 1 + 1)) rfl).trans (List.perm_middle (l₁ := [_, _])).symm)
      clear hd5 hne hm0 hm1 hn104 HM HD HB5
      clear D
      go_wp2
      go_roundw
      case rel =>
        refine ⟨k + 1, ns ++ [NG.mk l0 l1 (M + 1) (M + 1 + 1)], by omega, by go_num, by rw [List.length_append, NL.out]; rfl, ?_, B5.out.2, B5.out.1⟩
        rw [List.map_append, ND.out, take_succ' gs k _ HV.out, List.map_append]
        rfl
      case measure => simp [intOf]; omega
    · have hkn : k = gs.length := by omega
      have hmix : mix ns gs k = ns.map NG.gr := by unfold mix; rw [List.drop_of_length_le (by omega), List.append_nil]
      have O5 : Hid (Own w.heap.size wr (⟨G, (ns.map NG.gr).flatMap Gr.cells, 36⟩ :: ⟨w.heap.size, T.cells h1, 32⟩ :: ⟨w.heap.size + 1, Z.toList, 32⟩ :: ns.flatMap NG.blks)) := by
        have := O3.out
        unfold LL at this
        rwa [hmix] at this
      have ND2 : Hid (ns.map (fun g => (g.r0, g.r1)) = T.groups) := by
        have := ND.out
        rwa [List.take_of_length_le (by omega), Hgd.out] at this
      clear hkn hmix O3 ND H104
      have c113 : wr.cell? ⟨w.heap.size, 113, none⟩ = some (.slice h.d.a T.dets.length h.d.cap) := by rw [O5.out.cell (x := ⟨w.heap.size, T.cells h1, 32⟩) (List.mem_cons_of_mem _ (List.mem_cons_self ..))]; exact H113.out
      go_wp2_with fail
      refine (freshD_any h.d.a h.d.cap T.dets _ (Hkt.out.dets.below B3.out) SM.out.dets).mono ?_
      rintro e v1 ⟨rfl, hg, hb, hsz⟩
      have P1 := Lib.hid (O5.out.add hb hg (Nat.le_refl _) B3.out.size)
      have C1 := Lib.hid (B3.out.trans (hb.mono B3.out.size))
      have d113 : v1.cell? ⟨w.heap.size, 113, none⟩ = some (.slice h.d.a T.dets.length h.d.cap) := (hb.cell (World.block_lt_of_cell? _ _ c113)).trans c113
      have f113 : v1.frozen? ⟨w.heap.size, 113, none⟩ = false := P1.out.frozen (x := ⟨w.heap.size, T.cells h1, 32⟩) (by simp only [List.mem_cons, true_or, or_true]) 113
      clear hg hb hsz c113 O5
      generalize hL : (World.heap wr).size = D at P1 ⊢
      clear hL
      go_upto_region 8 with fail
      have hset := set_d K8.out h1 (at0 D T.dets.length)
      have q1 := P1.out.cell_at (i := 2) (x := ⟨w.heap.size, T.cells h1, 32⟩) rfl 113 (.slice (some ⟨D, 0, none⟩) T.dets.length T.dets.length)
      have E1 := Lib.hid (below_write C1.out (Nat.le_refl _) (i := 113) (.slice (some ⟨D, 0, none⟩) T.dets.length T.dets.length))
      dsimp only [List.set_cons_succ, List.set_cons_zero] at q1
      rw [show (T.cells h1).set 113 (Value.slice (some ⟨D, 0, none⟩) T.dets.length T.dets.length) = T.cells (Hd.mk h1.g (at0 D T.dets.length) h1.r h1.b) from hset] at q1
      have Q1 := Lib.hid q1
      clear q1 hset d113 f113 P1 C1
      generalize World.setCell v1 _ _ = x1 at Q1 E1 ⊢
      have c114 : x1.cell? ⟨w.heap.size, 114, none⟩ = some (.slice h.r.a T.rails.length h.r.cap) := by
        have e1 := (K8.out.tab (Hd.mk h1.g (at0 D T.dets.length) h1.r h1.b) w).r
        rw [List.getElem?_toArray] at e1
        rw [Q1.out.cell (x := ⟨w.heap.size, T.cells (Hd.mk h1.g (at0 D T.dets.length) h1.r h1.b), 32⟩) (by simp only [List.mem_cons, true_or, or_true])]
        rw [show (T.cells (Hd.mk h1.g (at0 D T.dets.length) h1.r h1.b))[114]? = _ from e1, ← Hh1.out]
      go_wp2_with fail
      refine (freshR_any h.r.a h.r.cap T.rails _ (Hkt.out.rails.below E1.out) SM.out.rails).mono ?_
      rintro e v2 ⟨rfl, hg, hb, hsz⟩
      have P2 := Lib.hid (Q1.out.add hb hg (Nat.le_refl _) E1.out.size)
      have C2 := Lib.hid (E1.out.trans (hb.mono E1.out.size))
      have d114 : v2.cell? ⟨w.heap.size, 114, none⟩ = some (.slice h.r.a T.rails.length h.r.cap) := (hb.cell (World.block_lt_of_cell? _ _ c114)).trans c114
      have f114 : v2.frozen? ⟨w.heap.size, 114, none⟩ = false := P2.out.frozen (x := ⟨w.heap.size, T.cells (Hd.mk h1.g (at0 D T.dets.length) h1.r h1.b), 32⟩) (by simp only [List.mem_cons, true_or, or_true]) 114
      clear hg hb hsz c114 Q1
      generalize hL : (World.heap x1).size = R at P2 ⊢
      clear hL
      go_upto_region 9 with fail
      have hset := set_r K8.out (Hd.mk h1.g (at0 D T.dets.length) h1.r h1.b) (at0 R T.rails.length)
      have q2 := P2.out.cell_at (i := 3) (x := ⟨w.heap.size, T.cells (Hd.mk h1.g (at0 D T.dets.length) h1.r h1.b), 32⟩) rfl 114 (.slice (some ⟨R, 0, none⟩) T.rails.length T.rails.length)
      have E2 := Lib.hid (below_write C2.out (Nat.le_refl _) (i := 114) (.slice (some ⟨R, 0, none⟩) T.rails.length T.rails.length))
      dsimp only [List.set_cons_succ, List.set_cons_zero] at q2
      rw [show (T.cells (Hd.mk h1.g (at0 D T.dets.length) h1.r h1.b)).set 114 (Value.slice (some ⟨R, 0, none⟩) T.rails.length T.rails.length) = T.cells (Hd.mk h1.g (at0 D T.dets.length) (at0 R T.rails.length) h1.b) from hset] at q2
      have Q2 := Lib.hid q2
      clear q2 hset d114 f114 P2 C2
      generalize World.setCell v2 _ _ = x2 at Q2 E2 ⊢
      have c115 : x2.cell? ⟨w.heap.size, 115, none⟩ = some (.slice h.b.a T.buses.length h.b.cap) := by
        have e1 := (K8.out.tab (Hd.mk h1.g (at0 D T.dets.length) (at0 R T.rails.length) h1.b) w).b
        rw [List.getElem?_toArray] at e1
        rw [Q2.out.cell (x := ⟨w.heap.size, T.cells (Hd.mk h1.g (at0 D T.dets.length) (at0 R T.rails.length) h1.b), 32⟩) (by simp only [List.mem_cons, true_or, or_true])]
        rw [show (T.cells (Hd.mk h1.g (at0 D T.dets.length) (at0 R T.rails.length) h1.b))[115]? = _ from e1, ← Hh1.out]
      go_wp2_with fail
      refine (freshB_any h.b.a h.b.cap T.buses _ (Hkt.out.buses.below E2.out) SM.out.buses).mono ?_
      rintro e v3 ⟨rfl, hg, hb, hsz⟩
      have P3 := Lib.hid (Q2.out.add hb hg (Nat.le_refl _) E2.out.size)
      have C3 := Lib.hid (E2.out.trans (hb.mono E2.out.size))
      have d115 : v3.cell? ⟨w.heap.size, 115, none⟩ = some (.slice h.b.a T.buses.length h.b.cap) := (hb.cell (World.block_lt_of_cell? _ _ c115)).trans c115
      have f115 : v3.frozen? ⟨w.heap.size, 115, none⟩ = false := P3.out.frozen (x := ⟨w.heap.size, T.cells (Hd.mk h1.g (at0 D T.dets.length) (at0 R T.rails.length) h1.b), 32⟩) (by simp only [List.mem_cons, true_or, or_true]) 115
      clear hg hb hsz c115 Q2
      generalize hL : (World.heap x2).size = S at P3 ⊢
      clear hL
      go_upto_region 10 with fail
      have hset := set_b K8.out (Hd.mk h1.g (at0 D T.dets.length) (at0 R T.rails.length) h1.b) (at0 S T.buses.length)
      have q3 := P3.out.cell_at (i := 4) (x := ⟨w.heap.size, T.cells (Hd.mk h1.g (at0 D T.dets.length) (at0 R T.rails.length) h1.b), 32⟩) rfl 115 (.slice (some ⟨S, 0, none⟩) T.buses.length T.buses.length)
      have E3 := Lib.hid (below_write C3.out (Nat.le_refl _) (i := 115) (.slice (some ⟨S, 0, none⟩) T.buses.length T.buses.length))
      dsimp only [List.set_cons_succ, List.set_cons_zero] at q3
      rw [show (T.cells (Hd.mk h1.g (at0 D T.dets.length) (at0 R T.rails.length) h1.b)).set 115 (Value.slice (some ⟨S, 0, none⟩) T.buses.length T.buses.length) = T.cells (Hd.mk h1.g (at0 D T.dets.length) (at0 R T.rails.length) (at0 S T.buses.length)) from hset] at q3
      have Q3 := Lib.hid q3
      clear q3 hset d115 f115 P3 C3
      generalize World.setCell v3 _ _ = x3 at Q3 E3 ⊢
      have c4 := K8.out.tab (Hd.mk h1.g (at0 D T.dets.length) (at0 R T.rails.length) (at0 S T.buses.length)) w
      have HN := Lib.hid (Q3.out.get (x := ⟨w.heap.size, T.cells (Hd.mk h1.g (at0 D T.dets.length) (at0 R T.rails.length) (at0 S T.buses.length)), 32⟩) (by simp only [List.mem_cons, true_or, or_true]))
      have HN1 := Lib.hid (Q3.out.get (x := ⟨w.heap.size + 1, Z.toList, 32⟩) (by simp only [List.mem_cons, true_or, or_true]))
      have SZ := Lib.hid c4.size
      have ON := Lib.hid c4.one
      clear c4
      have QW := Lib.hid (Q3.out.row_at (i := 5) (x := ⟨w.heap.size + 1, Z.toList, 32⟩) rfl (T.cells (Hd.mk h1.g (at0 D T.dets.length) (at0 R T.rails.length) (at0 S T.buses.length))))
      have EW := Lib.hid (below_setRow E3.out (Nat.le_succ w.heap.size) (T.cells (Hd.mk h1.g (at0 D T.dets.length) (at0 R T.rails.length) (at0 S T.buses.length))).toArray)
      have hfin : (hd T G D R S) = (Hd.mk h1.g (at0 D T.dets.length) (at0 R T.rails.length) (at0 S T.buses.length)) := by rw [← Hh1.out]; unfold hd; rw [← Hgl.out]
      have HF := Lib.hid hfin
      clear hfin Q3 E3
      generalize hcs4 : T.cells (Hd.mk h1.g (at0 D T.dets.length) (at0 R T.rails.length) (at0 S T.buses.length)) = cs4 at HN SZ ON QW EW
      have HC4 := Lib.hid hcs4
      clear hcs4
      go_wp2_with (first | (refine wpList_load_row rfl 32 _ rfl w.heap.size rfl _ _ _ _ HN.out Try.underlying32 rfl (by rw [SZ.out]; exact infoT) ?_) | (refine wpList_store_row rfl 32 _ _ rfl (w.heap.size + 1) cs4.toArray rfl rfl 32 _ HN1.out (by rw [SZ.out]; exact infoT) (by rw [SZ.out]; show Z.toList.toArray.size = 131; rw [List.size_toArray, Array.length_toList]; exact HZ1.out) ON.out ?_))
      (try dsimp only at QW)
      (try dsimp only at EW)
      generalize World.setRow x3 _ _ = x4 at QW EW ⊢
      go_wp2_with fail
      (try simp only [Exit.inBlock, Exit.then])
      refine bodyPost_ret (v := .agg cs4.toArray) ?_ rfl ⟨ns, G, D, R, S, by rw [HF.out, HC4.out], ND2.out, ?_, EW.out⟩
      · exact results_cell_row rfl _ _ (w.heap.size + 1) 32 cs4.toArray (0, 0) _ rfl (QW.out.get (x := ⟨w.heap.size + 1, cs4, 32⟩) (by simp only [List.set_cons_succ, List.set_cons_zero, List.mem_cons, true_or, or_true])) Try.underlying32 rfl (by rw [SZ.out]; exact infoT)
      · have hq := QW.out
        try dsimp only [List.set_cons_succ, List.set_cons_zero] at hq
        exact (hq.perm (M := [_, _, _, _, _, _].reverse ++ _) (List.Perm.append_right _ (List.reverse_perm _))).tail.tail
end Go.Proofs.Ytfekngnfjemgeaa.Clone
/- The contract of the document's On: the set of the phases that are On. -/
namespace Go.Proofs.Ytfekngnfjemgeaa.OnS
open Go.ChangeShapes Go.WideShapes Go.ChangeAt Go.RowKit
open Tab Gath RefS
open May (St phases_in infoP)
set_option linter.unusedVariables false
set_option linter.unusedSimpArgs false
/-- A row, as set.Of's contract wants it. -/
theorem row_of_int {w : World} {a : Option Addr} {cap : Nat} {L : List Int} (h : IntRow w ⟨a, cap⟩ L) : RefS.Row w a L := by
  have hl := h.len
  refine ⟨by omega, ?_⟩
  by_cases h0 : L = []
  · exact .inl h0
  · have hp : 0 < L.length := List.length_pos_iff.2 h0
    obtain ⟨x, hx, _⟩ := IntRow.at h (List.getElem?_eq_getElem hp)
    refine .inr ⟨x, hx, fun i hi => ?_⟩
    obtain ⟨y, hy, hc⟩ := IntRow.at h (List.getElem?_eq_getElem hi)
    obtain rfl : x = y := Option.some.inj (hx.symm.trans hy)
    rw [hc, List.getD_eq_getElem?_getD, List.getElem?_eq_getElem hi]
    rfl
def onTo : Nat → List Ph → List Int
  | _, [] => []
  | i, p :: l => (if p.on then [(i : Int)] else []) ++ onTo (i + 1) l
theorem onTo_append : ∀ (i : Nat) (l m : List Ph), onTo i (l ++ m) = onTo i l ++ onTo (i + l.length) m
  | i, [], m => rfl
  | i, p :: l, m => by
    rw [List.cons_append, onTo, onTo, onTo_append (i + 1) l m, List.append_assoc, List.length_cons, show i + 1 + l.length = i + (l.length + 1) by omega]
theorem on_step {l : List Ph} {q : Nat} {p : Ph} (h : l[q]? = some p) : onTo 0 (l.take (q + 1)) = onTo 0 (l.take q) ++ (if p.on then [(q : Int)] else []) := by
  have hi : q < l.length := (List.getElem?_eq_some_iff.1 h).1
  rw [PlaceM.take_succ h, onTo_append, List.length_take, Nat.min_eq_left (by omega), Nat.zero_add]
  simp [onTo]
theorem on_len : ∀ (i : Nat) (l : List Ph), (onTo i l).length ≤ l.length
  | i, [] => Nat.le_refl _
  | i, p :: l => by
    rw [onTo, List.length_append, List.length_cons]
    have := on_len (i + 1) l
    split <;> simp <;> omega
/-- The phases that are On, and their set. -/
def onL (T : Tab) : List Int := onTo 0 T.phases
def onS (T : Tab) : Nat := SetM.of (onL T)
abbrev OwnsI (B : Nat) (w : World) (v : Value) (l : List Int) : Prop := Owns (fun n => [I n]) 1 B w 3 v l
set_option maxRecDepth 100000 in
set_option maxHeartbeats 4000000 in
theorem on_any (T : Tab) (h : Hd) (w : World) (ht : IsTab w h T) :
    Calls Try.prog 44 #[.agg (T.cells h).toArray] w fun e w' => e = .returned (.int .i64 (onS T : Nat)) ∧ Below w.heap.size w w' := by
  have C := Lib.hid (cells_ok ht)
  generalize (T.cells h).toArray = cs at C ⊢
  have hsz := C.out.size
  have L8 := Lib.hid ht.ph
  have S0 := Lib.hid (St.box (cs := cs) ht)
  obtain ⟨i0, hi, hz0, hz1, hz2⟩ := info_parts info3
  have RS : Hid ((onS T : Nat) = SetM.of (onTo 0 T.phases)) := Lib.hid rfl
  generalize onS T = r at RS ⊢
  clear ht
  go_enter Try.func44, Try.ntmps44
  go_upto_region 1 with fail
  generalize w.alloc (.cells cs 32) = w1 at S0 ⊢
  clear hsz
  go_wp2_with fail
  go_loopw [3, 4] (fun v g wr => ∃ q : Nat, q ≤ 8 ∧ g = .int .i64 q ∧ OwnsI w1.heap.size wr v (onTo 0 (T.phases.take q)) ∧ Below w1.heap.size w1 wr) (fun _ g _ => 8 - (intOf g).toNat)
  case atStart => exact ⟨0, by omega, rfl, Owns.nil, Below.refl _ _⟩
  case round =>
    obtain ⟨q, hq, rfl, hown, hbel⟩ := hrel
    have HO := Lib.hid hown
    have HB := Lib.hid hbel
    clear hown hbel
    have S1 := Lib.hid (S0.out.step HB.out)
    by_cases hlt : q < 8
    · have hv : T.phases[q]? = some (T.phases[q]'(by rw [L8.out]; exact hlt)) := List.getElem?_eq_getElem _
      generalize T.phases[q]'(by rw [L8.out]; exact hlt) = u at hv
      obtain ⟨x, hx, hc⟩ := (phases_in S1.out.blk C.out L8.out).at hv
      obtain rfl := Option.some.inj hx
      have c0 : wr.cell? ⟨w.heap.size, q * 13, none⟩ = some (.bool u.on) := by
        have := hc 0 _ rfl
        rwa [Addr.add_mid, Nat.zero_add, Tab.add_zero] at this
      have HS := Lib.hid (on_step hv)
      have hlen : (onTo 0 (T.phases.take q)).length ≤ 8 := by have := on_len 0 (T.phases.take q); rw [List.length_take] at this; omega
      have hsz := HB.out.size
      clear hv hc hx
      generalize onTo 0 (T.phases.take q) = P1 at HO HS hlen
      cases hon : u.on
      · rw [hon] at c0 HS
        have HS2 : Hid (onTo 0 (T.phases.take (q + 1)) = P1) := Lib.hid (by rw [HS.out]; simp)
        go_wp2
        go_roundw
        case rel => exact ⟨q + 1, by omega, by go_num, by rw [HS2.out]; exact HO.out, HB.out⟩
        case measure => simp [intOf]; omega
      · rw [hon] at c0 HS
        have HS2 : Hid (onTo 0 (T.phases.take (q + 1)) = P1 ++ [(q : Int)]) := Lib.hid (by rw [HS.out]; simp)
        have hown2 : wr.ownsRow w1.heap.size 3 1 u3 P1.length (P1.flatMap (fun n => [I n])) := HO.out
        clear HO
        go_wp2_with (at_builtin; refine wpList_append_own _ rfl _ _ 22 rfl w1.heap.size 3 i0 (.int .i64 0) 1 8 Try.underlying22 hi hz0 hz1 hz2 rfl (by decide) _ _ _ rfl (hown2.alloc _) ⟨wr.heap.size, 0, none⟩ 1 1 [.int .i64 (q : Int)] rfl rfl ?c1 ?c2 ?c3 ?c4 ?c5 ?_)
        case c2 => rfl
        case c3 => unfold maxLen; omega
        case c4 => omega
        case c5 => omega
        intro v' w2 hown' hgrow hnil'
        have HB2 : Hid (Below w1.heap.size w1 w2) := Lib.hid ((HB.out.alloc hsz _).grown hgrow (by simp; omega) fun m hm => (show OwnsI w1.heap.size wr u3 P1 from hown2).blk m hm)
        have HO2 : Hid (OwnsI w1.heap.size w2 v' (P1 ++ [(q : Int)])) := Lib.hid (Owns.snoc hown')
        clear hown' hgrow hown2 hnil'
        go_wp2
        go_roundw
        case rel => exact ⟨q + 1, by omega, by go_num, by rw [HS2.out]; exact HO2.out, HB2.out⟩
        case measure => simp [intOf]; omega
    · have HE : Hid (onTo 0 (T.phases.take q) = onTo 0 T.phases) := Lib.hid (by rw [List.take_of_length_le (by rw [L8.out]; omega)])
      obtain ⟨⟨sa, sc⟩, hs, hrow⟩ := HO.out.row (enc := fun n => [I n]) (fun _ => rfl)
      rw [HE.out] at hs hrow
      have HR := Lib.hid (row_of_int hrow)
      have HF : Hid (Below w.heap.size w wr) := Lib.hid (S1.out.bel)
      clear hrow HE
      subst hs
      generalize onTo 0 T.phases = P2 at RS HR ⊢
      show Code.wp _ _ _ _ _
      rw [show (Sl.val ⟨sa, sc⟩ P2.length) = .slice sa P2.length sc from rfl]
      go_wp2_with fail
      refine (rof_any sa sc P2 _ HR.out).mono ?_
      rintro e w' ⟨rfl, rfl⟩
      rw [← RS.out]
      go_wp2
      go_ret
      exact ⟨rfl, HF.out⟩
end Go.Proofs.Ytfekngnfjemgeaa.OnS
/- What chapter 9 asks of a table, as plain data: the way of package check, the document's own, and that they agree on tables within their ranges. No program in it. -/
namespace Go.Proofs.Ytfekngnfjemgeaa.ChkM
open Go Tab PlaceM PlanM OnS May
set_option linter.unusedVariables false
set_option linter.unusedSimpArgs false
/-- The phases that are On, in order; a phase's own numbers. -/
def ons (T : Tab) : List Int := SetM.list (onS T : Nat)
def phAt (T : Tab) (p : Int) : Ph := T.phases.getD p.toNat default
def cfAt (T : Tab) (p : Int) : Int := T.conflict.getD p.toNat 0
def flAt (T : Tab) (p : Int) : Int := T.flash.getD p.toNat 0
def phBad (u : Ph) : Bool := decide (u.min < 1) || (decide (u.yellow < 10) || (decide (u.max < u.min) || (decide (u.top < u.max) || ((decide (u.step < 1) && decide (u.max < u.top)) || (((u.walk == 0) != (u.blinks == 0)) || (u.recall == 3 && u.walk == 0))))))
def phOk (u : Ph) : Bool := decide (1 ≤ u.min) && (decide (10 ≤ u.yellow) && (decide (u.min ≤ u.max) && (decide (u.max ≤ u.top) && ((decide (1 ≤ u.step) || u.top == u.max) && ((decide (0 < u.walk) == decide (0 < u.blinks)) && (u.recall != 3 || decide (0 < u.walk)))))))
def allOn (T : Tab) (s : Int) : Bool := bits .andNot .i64 s (onS T : Nat) == 0
def inR (a b : Int) : Bool := bits .and .i64 (bits .andNot .i64 a b) 255 == 0
def clashC (T : Tab) (s : Int) : Bool := (SetM.list s).any fun p => bits .and .i64 (cfAt T p) s != 0
def clashR (T : Tab) (a b : Int) : Bool := (SetM.list a).any fun p => (SetM.list b).any fun q => SetM.has (cfAt T p) q || SetM.has (cfAt T q) p
def abreast (T : Tab) (s : Int) : Bool := (SetM.list s).all fun p => (SetM.list (SetM.withoutN s p : Nat)).all fun q => beside T p q
/-- The document's: each two of a list, the later against the earlier ones. -/
def pairs (T : Tab) (l : List Int) : Bool := (List.range l.length).all fun i => (List.range i).all fun k => beside T (l.getD i 0) (l.getD k 0)
def yel (T : Tab) (p : Int) : Bool := flAt T p == 2
def yellows (T : Tab) : Nat := SetM.of ((ons T).filter (yel T))
def confBad (T : Tab) (p : Int) : Bool := SetM.has (cfAt T p) p || (ons T).any fun q => (SetM.has (cfAt T p) q != SetM.has (cfAt T q) p) || (SetM.has (cfAt T p) q && beside T p q)
def confR (T : Tab) (p q : Int) : Bool := (SetM.has (cfAt T p) q && q == p) || ((SetM.has (cfAt T p) q != SetM.has (cfAt T q) p) || (SetM.has (cfAt T p) q && beside T p q))
def confOk (T : Tab) (p : Int) : Bool := !(ons T).any (confR T p)
def flashBad (T : Tab) (p : Int) : Bool := flAt T p == 0 || (flAt T p == 2 && bits .and .i64 (cfAt T p) (yellows T : Nat) != 0)
def flashR (T : Tab) (p q : Int) : Bool := flAt T p == 2 && (flAt T q == 2 && SetM.has (cfAt T p) q)
def flashOk (T : Tab) (p : Int) : Bool := flAt T p != 0 && !(ons T).any (flashR T p)
def gtF (a b : Nat) : Bool := decide (Go.Proofs.Fl.key b < Go.Proofs.Fl.key a)
def detBad (T : Tab) (d : Det) : Bool := gtF d.off d.on || !(phAt T d.phase).on
def detR (T : Tab) (d : Det) : Bool := gtF d.off d.on || !SetM.has (onS T : Nat) d.phase
def timesBad (r : Rl) : Bool := ((r.hold == 0) != (r.clear == 0)) || (decide (r.green < 1) || (decide (r.stay < 1) || ((decide (0 < r.most) && decide (r.most < r.stay)) || decide (r.limit ≤ r.delay))))
def or4 (r : Rl) : Int := bits .or .i64 (bits .or .i64 (bits .or .i64 r.bars r.clear) r.dwell) r.exit
def railBad (T : Tab) (r : Rl) : Bool := !allOn T (or4 r) || (r.dwell == 0 || (r.exit == 0 || (bits .and .i64 r.dwell r.bars != 0 || (clashC T r.clear || (clashC T r.dwell || (clashC T r.exit || (!abreast T r.exit || timesBad r)))))))
def exitR (T : Tab) (s : Int) : Bool := pairs T (SetM.list s) && decide (0 < (SetM.list s).length)
def railOk (T : Tab) (r : Rl) : Bool := (inR (or4 r) (onS T : Nat) && (r.dwell != 0 && (bits .and .i64 r.dwell r.bars == 0 && exitR T r.exit))) && (!clashR T r.clear r.clear && (!clashR T r.dwell r.dwell && (!clashR T r.exit r.exit && ((decide (0 < r.hold) == (r.clear != 0)) && (decide (1 ≤ r.green) && (decide (1 ≤ r.stay) && ((r.most == 0 || decide (r.stay ≤ r.most)) && decide (r.delay < r.limit))))))))
def busBad (T : Tab) (b : Bs) : Bool := b.set == 0 || (!allOn T b.set || decide (b.lock < 1))
def busR (T : Tab) (b : Bs) : Bool := b.set == 0 || (!inR b.set (onS T : Nat) || decide (b.lock < 1))

/-! ### rule 3 -/
/-- Where package plan finds a number. -/
def at0 (o : Option Spt) : Nat × Nat × Nat := match o with | some x => (x.g, x.k, x.i) | none => (0, 0, 0)
def repRow (T : Tab) (g k : Nat) (l : List Int) : Bool := (List.range l.length).any fun i => at0 (where_ T (l.getD i 0)) != (g, k, i)
def repeats (T : Tab) (g : Nat) : Bool := repRow T g 0 (rowsAt T g).1 || repRow T g 1 (rowsAt T g).2
def groupBad (T : Tab) (g : Nat) : Bool := membS T g == 0 || (!allOn T (membS T g : Nat) || repeats T g)
def placed (T : Tab) : Nat → Nat
  | 0 => 0
  | g + 1 => placed T g ||| membS T g
def ringsC (T : Tab) : Option Int :=
  if T.groups.length = 0 then some 0 else
  match (List.range T.groups.length).find? (groupBad T) with
  | some g => some (g : Int)
  | none => if bits .andNot .i64 (onS T : Nat) (placed T T.groups.length : Nat) = 0 then none else some 0
/-- The document's walk through the places of one group: how many, and who has been seen. -/
def foldR (on : Int) (g : Nat) : List Spt → Nat × Nat → Option (Nat × Nat)
  | [], s => some s
  | x :: l, (n, s) => if x.g = g then (if !SetM.has on x.p || SetM.has (s : Nat) x.p then none else foldR on g l (n + 1, SetM.withN (s : Nat) x.p)) else foldR on g l (n, s)
def loopR (T : Tab) : Nat → Nat → Nat → Option Int
  | 0, _, seen => if seen = onS T then none else some 0
  | m + 1, g, seen => match foldR (onS T : Nat) g (spots T) (0, seen) with
    | none => some (g : Int)
    | some (n, s) => if n = 0 then some (g : Int) else loopR T m (g + 1) s
def ringsR (T : Tab) : Option Int := if T.groups.length = 0 then some 0 else loopR T T.groups.length 0 0

/-! ### all rules -/
/-- The first rule that applies. -/
def firstF : List (Int × Option Int) → Int × Int
  | [] => (0, 0)
  | (c, some p) :: _ => (c, p)
  | (_, none) :: l => firstF l
def idx {α : Type} (f : α → Bool) (l : List α) : Option Int := (l.findIdx? f).map Int.ofNat
def mayF (T : Tab) : Option Int := if tabMay T then none else some 0
def rulesC (T : Tab) : List (Int × Option Int) := [(4, mayF T), (7, (ons T).find? fun p => phBad (phAt T p)), (8, ringsC T), (9, (ons T).find? (confBad T)), (10, idx (detBad T) T.dets), (11, idx (railBad T) T.rails), (12, idx (busBad T) T.buses), (13, (ons T).find? (flashBad T))]
def rulesR (T : Tab) : List (Int × Option Int) := [(4, mayF T), (7, (ons T).find? fun p => !phOk (phAt T p)), (8, ringsR T), (9, (ons T).find? fun p => !confOk T p), (10, idx (detR T) T.dets), (11, idx (fun r => !railOk T r) T.rails), (12, idx (busR T) T.buses), (13, (ons T).find? fun p => !flashOk T p)]
/-- The Fault of package check, and the document's. -/
def chkC (T : Tab) : Int × Int := firstF (rulesC T)
def chkR (T : Tab) : Int × Int := firstF (rulesR T)
def fcells (x : Int × Int) : Array Value := #[I x.1, I x.2]
theorem first_hit {c p : Int} : ∀ {l : List (Int × Option Int)} {q : Nat}, l[q]? = some (c, some p) → (∀ j x, j < q → l[j]? = some x → x.2 = none) → firstF l = (c, p)
  | [], q, h, _ => by simp at h
  | (d, o) :: l, 0, h, _ => by
    obtain ⟨rfl, rfl⟩ : d = c ∧ o = some p := by simpa using h
    rfl
  | (d, o) :: l, q + 1, h, hn => by
    have h0 : o = none := hn 0 (d, o) (by omega) rfl
    subst h0
    exact first_hit (l := l) (q := q) (by simpa using h) (fun j x hj hx => hn (j + 1) x (by omega) (by simpa using hx))
theorem first_miss : ∀ {l : List (Int × Option Int)}, (∀ x ∈ l, x.2 = none) → firstF l = (0, 0)
  | [], _ => rfl
  | (d, o) :: l, h => by
    have h0 : o = none := h (d, o) (List.mem_cons_self ..)
    subst h0
    exact first_miss (l := l) (fun x hx => h x (List.mem_cons_of_mem _ hx))
end Go.Proofs.Ytfekngnfjemgeaa.ChkM
/- The contracts of package set's bit, Has, With and Of, at all integers and slices of integers (the part of XSet and XSetR that needs no iterator). -/
namespace Go.Proofs.Ytfekngnfjemgeaa.SetP
open Go.ChangeShapes Go.WideShapes Go.ChangeAt Go.RowKit
open Go.Proofs.Ytfekngnfjemgeaa
set_option linter.unusedVariables false

theorem ret_int {k : IntKind} {a b : Int} (h : a = b) : Ending.returned (.int k a) = .returned (.int k b) := by rw [h]
theorem ret_bool {a b : Bool} (h : a = b) : Ending.returned (.bool a) = .returned (.bool b) := by rw [h]

theorem eight {p : Int} (h : 0 ≤ p) (h' : p < 8) : p = 0 ∨ p = 1 ∨ p = 2 ∨ p = 3 ∨ p = 4 ∨ p = 5 ∨ p = 6 ∨ p = 7 := by omega

set_option maxHeartbeats 400000 in
theorem bit_any (p : Int) (w : World) : Calls Try.prog 136 #[.int .i64 p] w fun e w' => e = .returned (.int .i64 (SetM.bit p)) ∧ w = w' := by
  by_cases h1 : p < 0
  · have HB := Lib.hid (SetM.bit_out (p := p) (by omega))
    go_enter Try.func136, Try.ntmps136
    go_wp2
    go_ret
    exact ⟨ret_int (by rw [HB.out]; rfl), rfl⟩
  by_cases h2 : 8 ≤ p
  · have HB := Lib.hid (SetM.bit_out (p := p) (by omega))
    go_enter Try.func136, Try.ntmps136
    go_wp2
    go_ret
    exact ⟨ret_int (by rw [HB.out]; rfl), rfl⟩
  rcases eight (p := p) (by omega) (by omega) with rfl | rfl | rfl | rfl | rfl | rfl | rfl | rfl
  all_goals
    clear h1 h2
    go_enter Try.func136, Try.ntmps136
    go_wp2
    go_ret
    exact ⟨ret_int (by decide), rfl⟩


theorem ne_has (s p : Int) : (bits .and .i64 s (SetM.bit p) != 0) = SetM.has s p := by
  have h := SetM.has_and s p
  cases hb : SetM.has s p
  · rw [h.2 hb]; rfl
  · rw [bne_iff_ne]; intro e; rw [h.1 e] at hb; cases hb

set_option maxHeartbeats 400000 in
theorem has_any (s p : Int) (w : World) : Calls Try.prog 114 #[.int .i64 s, .int .i64 p] w fun e w' => e = .returned (.bool (SetM.has s p)) ∧ w = w' := by
  have HB := Lib.hid (ne_has s p)
  go_enter Try.func114, Try.ntmps114
  go_wp2_with (go_at_call 136; refine (bit_any _ _).mono ?_; rintro e w' ⟨rfl, rfl⟩)
  go_ret
  exact ⟨ret_bool HB.out, rfl⟩

set_option maxHeartbeats 400000 in
theorem with_any (s p : Int) (w : World) : Calls Try.prog 132 #[.int .i64 s, .int .i64 p] w fun e w' => e = .returned (.int .i64 (SetM.withN s p)) ∧ w = w' := by
  have HB := Lib.hid (SetM.with_bits s p)
  go_enter Try.func132, Try.ntmps132
  go_wp2_with (go_at_call 136; refine (bit_any _ _).mono ?_; rintro e w' ⟨rfl, rfl⟩)
  go_ret
  exact ⟨ret_int HB.out, rfl⟩

theorem with_take (l : List Int) (k : Nat) (h : k < l.length) : SetM.withN (SetM.of (l.take k) : Nat) (l.getD k 0) = SetM.of (l.take (k + 1)) := by
  rw [RefS.take_succ l k h, SetM.with_of]

set_option maxHeartbeats 400000 in
theorem of_any (a : Option Addr) (cap : Nat) (l : List Int) (w : World) (h : RefS.Row w a l) :
    Calls Try.prog 135 #[.slice a l.length cap] w fun e w' => e = .returned (.int .i64 (SetM.of l : Nat)) ∧ w = w' := by
  have h1 := h.1
  unfold maxLen at h1
  have Hr := Lib.hid h
  clear h
  go_enter Try.func135, Try.ntmps135
  go_wp2
  go_loop [3, 8] (fun t i => ∃ k : Nat, k ≤ l.length ∧ i = .int .i64 k ∧ t = .int .i64 (SetM.of (l.take k) : Nat)) (fun _ i => l.length - (intOf i).toNat)
  case atStart => exact ⟨0, Nat.zero_le _, rfl, rfl⟩
  case round =>
    obtain ⟨k, hk, rfl, rfl⟩ := hrel
    by_cases hlt : k < l.length
    · have HS := with_take l k hlt
      obtain ⟨x, rfl, hc⟩ := Hr.out.cells hlt
      have hcell := hc k hlt
      clear hc
      generalize l.getD k 0 = y at HS hcell
      have HS2 := Lib.hid HS
      clear HS
      go_wp2_with (go_at_call 132; refine (SetP.with_any _ _ _).mono ?_; rintro e w' ⟨rfl, rfl⟩)
      go_round
      case rel => exact ⟨k + 1, by omega, by go_num, by rw [HS2.out]⟩
      case measure => simp [intOf]; omega
    · go_wp2
      go_ret
      have : k = l.length := by omega
      subst this
      exact ⟨by rw [List.take_of_length_le (Nat.le_refl _)]; rfl, rfl⟩


end Go.Proofs.Ytfekngnfjemgeaa.SetP
