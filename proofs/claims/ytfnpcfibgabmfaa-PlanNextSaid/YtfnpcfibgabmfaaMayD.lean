/- The contract of table.May, at any table. -/
import Derived.Test.YtfnpcfibgabmfaaRows
import Derived.Test.YtfnpcfibgabmfaaMayC
namespace Go.Proofs.Ytfnpcfibgabmfaa.May
open Go.ChangeShapes Go.WideShapes Go.ChangeAt Go.RowKit
open Tab
set_option linter.unusedVariables false
set_option linter.unusedSimpArgs false

def listMay {α : Type} (m : Int) (f : α → Bool) (l : List α) : Bool := decide ((l.length : Int) ≤ m) && l.all f
def tabMay (T : Tab) : Bool :=
  listMay 8 Ph.may T.phases && (listMay 4 groupMay T.groups && (allIn 255 T.conflict && (listMay 16 Det.may T.dets && (listMay 4 Rl.may T.rails && (listMay 4 Bs.may T.buses &&
    (allIn 9999 [T.extend, T.budget, T.start, T.revert, T.least] && (allIn 2 T.flash && allIn 2147483647 [T.window, T.share])))))))

/-- Ints that lie in a block, as a row. -/
theorem ints_in {w : World} {g : Nat} {cs : Array Value} {t : TypeId} {fr : Nat × Nat} (hg : w.heap[g]? = some (.cells cs t fr)) (o n : Nat) (l : List Int) (h : (cs.toList.drop o).take n = l.map I) (hn : l.length = n) (hm : n ≤ maxLen) :
    IntRow w ⟨some ⟨g, o, none⟩, n⟩ l := by
  subst hn
  refine .inr ⟨_, rfl, Nat.le_refl _, hm, fun i v hv j u hu => ?_⟩
  cases j with
  | zero =>
    obtain rfl := Option.some.inj hu
    rw [Nat.mul_one, add_two, Nat.add_zero, Addr.add_mid]
    exact range_of hg o _ _ h i _ (by simp [hv])
  | succ j => cases hu
/-- Phases that lie at a block's head, as a row. -/
theorem phases_in {w : World} {g : Nat} {cs : Array Value} {t : TypeId} {fr : Nat × Nat} {T : Tab} {h : Hd} (hg : w.heap[g]? = some (.cells cs t fr)) (C : CellsOk T h cs) (hn : T.phases.length = 8) :
    RowOf 13 Ph.cells w ⟨some ⟨g, 0, none⟩, 8⟩ T.phases := by
  refine .inr ⟨_, rfl, by rw [hn]; exact Nat.le_refl _, (show 8 ≤ maxLen by decide), fun i v hv j u hu => ?_⟩
  rw [add_two, Addr.add_mid, Nat.zero_add, Nat.mul_comm]
  exact range_of hg (13 * i) 13 _ (C.phase i v hv) j u hu

/-- What a walk over a boxed table holds on to. -/
structure St (w : World) (N : Nat) (cs : Array Value) (h : Hd) (T : Tab) (W : World) : Prop where
  bel : Below w.heap.size w W
  blk : W.heap[N]? = some (.cells cs 33 (0, 0))
  tab : IsTab W h T
  le : w.heap.size ≤ N
theorem St.step {w W W' : World} {N : Nat} {cs : Array Value} {h : Hd} {T : Tab} (k : St w N cs h T W) (hb : Below W.heap.size W W') : St w N cs h T W' :=
  ⟨chain k.bel hb, by rw [hb.block N (Array.getElem?_eq_some_iff.1 k.blk).1]; exact k.blk, k.tab.below hb, k.le⟩
theorem St.cell {w W : World} {N : Nat} {cs : Array Value} {h : Hd} {T : Tab} (k : St w N cs h T W) {o : Nat} {v : Value} (hv : cs[o]? = some v) : W.cell? ⟨N, o, none⟩ = some v := by
  rw [cell_of_row _ _ _ _ _ _ k.blk]; exact hv
theorem St.box {w : World} {cs : Array Value} {h : Hd} {T : Tab} (k : IsTab w h T) : St w w.heap.size cs h T (w.alloc (.cells cs 33)) :=
  ⟨(Below.refl _ _).alloc (Nat.le_refl _) _, heap_alloc_new _ _, k.below ((Below.refl _ _).alloc (Nat.le_refl _) _), Nat.le_refl _⟩

theorem within_len (m : Int) (a : Option Addr) (cap : Nat) (l : List Int) (n : Nat) (hn : l.length = n) (w : World) (h : IntRow w ⟨a, cap⟩ l) :
    Calls Try.prog 51 #[.int .i64 m, .slice a n cap] w fun e w' => e = .returned (.bool (allIn m l)) ∧ w = w' := by
  subst hn; exact within_any m a cap l w h
theorem upto_len (m : Int) (a : Option Addr) (cap : Nat) (l : List Int) (n : Nat) (hn : l.length = n) (w : World) (h : IntRow w ⟨a, cap⟩ l) :
    Calls Try.prog 59 #[.slice a n cap, .int .i64 m] w fun e w' => e = .returned (.bool (allIn m l)) ∧ w = w' := by
  subst hn; exact upto_any m a cap l w h
set_option maxRecDepth 10000 in
set_option maxHeartbeats 2000000 in
theorem may_any (T : Tab) (h : Hd) (w : World) (k : IsTab w h T) :
    Calls Try.prog 13 #[.agg (T.cells h).toArray] w fun e w' => e = .returned (.bool (tabMay T)) ∧ Below w.heap.size w w' := by
  have C := Lib.hid (cells_ok k)
  have L8 := Lib.hid k.ph
  have Lc := Lib.hid k.cf
  have Lf := Lib.hid k.fl
  generalize (T.cells h).toArray = cs at C ⊢
  have hsz := C.out.size
  obtain ⟨gs, hgd, hgr⟩ := k.groups
  have Hgr := Lib.hid hgr
  clear hgr
  have hw0 : Below w.heap.size w (w.alloc (.cells cs 33)) := (Below.refl _ _).alloc (Nat.le_refl _) _
  have HW0 := Lib.hid hw0
  clear hw0
  have S0 := Lib.hid (St.box (cs := cs) k)
  clear k
  have Hgd := Lib.hid hgd
  have hgl : T.groups.length = gs.length := by rw [← hgd, List.length_map]
  have Hgl := Lib.hid hgl
  clear hgd hgl
  have hph := phases_in S0.out.blk C.out L8.out
  have cP := mayAllP_any 8 (some ⟨w.heap.size, 0, none⟩) 8 T.phases _ hph
  rw [L8.out] at cP
  have CP := Lib.hid cP
  clear cP hph
  have L8p : Hid ((8 : Nat) = T.phases.length) := L8.out.symm
  go_enter Try.func13, Try.ntmps13
  go_wp2_with fail
  refine (CP.out).mono ?_
  rintro e w1 ⟨rfl, hb1⟩
  have S1 := Lib.hid (S0.out.step hb1)
  clear hb1 S0
  generalize hv : (decide (((8 : Nat) : Int) ≤ 8) && T.phases.all Ph.may) = b1
  have HB1 : Hid (listMay 8 Ph.may T.phases = b1) := (by unfold listMay; rw [L8.out]; exact hv)
  clear hv
  cases b1
  · go_wp2
    go_ret
    exact ⟨ret_bool (by unfold tabMay; simp only [HB1.out, Bool.true_and, Bool.false_and, Bool.and_true, Bool.and_false]), S1.out.bel⟩
  have c104 := S1.out.cell C.out.g
  rw [Hgl.out] at c104
  go_wp2_with fail
  refine (mayAllG_any 4 h.g.a h.g.cap gs _ (Hgr.out.1.below S1.out.bel) (fun v hv => (Hgr.out.2 v hv).below S1.out.bel)).mono ?_
  rintro e w2 ⟨rfl, hb2⟩
  have S2 := Lib.hid (S1.out.step hb2)
  clear hb2 S1
  generalize hv : (decide ((gs.length : Int) ≤ 4) && gs.all (fun v => groupMay v.data)) = b2
  have HB2 : Hid (listMay 4 groupMay T.groups = b2) := (by unfold listMay; rw [← Hgd.out, List.length_map, List.all_map]; exact hv)
  clear hv
  cases b2
  · go_wp2
    go_ret
    exact ⟨ret_bool (by unfold tabMay; simp only [HB1.out, HB2.out, Bool.true_and, Bool.false_and, Bool.and_true, Bool.and_false]), S2.out.bel⟩
  go_wp2_with fail
  refine (within_len 255 (some ⟨w.heap.size, 105, none⟩) 8 T.conflict 8 Lc.out _ (ints_in S2.out.blk 105 8 _ C.out.conflict Lc.out (by decide))).mono ?_
  rintro e w3 ⟨rfl, rfl⟩
  have S3 := S2
  generalize hv : allIn 255 T.conflict = b3
  have HB3 : Hid (allIn 255 T.conflict = b3) := hv
  clear hv
  cases b3
  · go_wp2
    go_ret
    exact ⟨ret_bool (by unfold tabMay; simp only [HB1.out, HB2.out, HB3.out, Bool.true_and, Bool.false_and, Bool.and_true, Bool.and_false]), S3.out.bel⟩
  have c113 := S3.out.cell C.out.d
  go_wp2_with fail
  refine (mayAllD_any 16 h.d.a h.d.cap T.dets _ S3.out.tab.dets).mono ?_
  rintro e w4 ⟨rfl, hb4⟩
  have S4 := Lib.hid (S3.out.step hb4)
  clear hb4 S3
  generalize hv : (decide ((T.dets.length : Int) ≤ 16) && T.dets.all Det.may) = b4
  have HB4 : Hid (listMay 16 Det.may T.dets = b4) := hv
  clear hv
  cases b4
  · go_wp2
    go_ret
    exact ⟨ret_bool (by unfold tabMay; simp only [HB1.out, HB2.out, HB3.out, HB4.out, Bool.true_and, Bool.false_and, Bool.and_true, Bool.and_false]), S4.out.bel⟩
  have c114 := S4.out.cell C.out.r
  go_wp2_with fail
  refine (mayAllR_any 4 h.r.a h.r.cap T.rails _ S4.out.tab.rails).mono ?_
  rintro e w5 ⟨rfl, hb5⟩
  have S5 := Lib.hid (S4.out.step hb5)
  clear hb5 S4
  generalize hv : (decide ((T.rails.length : Int) ≤ 4) && T.rails.all Rl.may) = b5
  have HB5 : Hid (listMay 4 Rl.may T.rails = b5) := hv
  clear hv
  cases b5
  · go_wp2
    go_ret
    exact ⟨ret_bool (by unfold tabMay; simp only [HB1.out, HB2.out, HB3.out, HB4.out, HB5.out, Bool.true_and, Bool.false_and, Bool.and_true, Bool.and_false]), S5.out.bel⟩
  have c115 := S5.out.cell C.out.b
  go_wp2_with fail
  refine (mayAllB_any 4 h.b.a h.b.cap T.buses _ S5.out.tab.buses).mono ?_
  rintro e w6 ⟨rfl, hb6⟩
  have S6 := Lib.hid (S5.out.step hb6)
  clear hb6 S5
  generalize hv : (decide ((T.buses.length : Int) ≤ 4) && T.buses.all Bs.may) = b6
  have HB6 : Hid (listMay 4 Bs.may T.buses = b6) := hv
  clear hv
  cases b6
  · go_wp2
    go_ret
    exact ⟨ret_bool (by unfold tabMay; simp only [HB1.out, HB2.out, HB3.out, HB4.out, HB5.out, HB6.out, Bool.true_and, Bool.false_and, Bool.and_true, Bool.and_false]), S6.out.bel⟩
  have c116 := S6.out.cell C.out.extend
  have c117 := S6.out.cell C.out.budget
  have c118 := S6.out.cell C.out.start
  have c119 := S6.out.cell C.out.revert
  have c120 := S6.out.cell C.out.least
  go_wp2_with fail
  refine (within_any 9999 _ _ [T.extend, T.budget, T.start, T.revert, T.least] _ (row_new _ _ [T.extend, T.budget, T.start, T.revert, T.least] 5 rfl (by decide) _ rfl)).mono ?_
  rintro e w7 ⟨rfl, hw⟩
  have hb7 : Below w6.heap.size w6 w7 := hw ▸ (Below.refl _ _).alloc (Nat.le_refl _) _
  clear hw
  have S7 := Lib.hid (S6.out.step hb7)
  clear hb7 S6
  generalize hv : allIn 9999 [T.extend, T.budget, T.start, T.revert, T.least] = b7
  have HB7 : Hid (allIn 9999 [T.extend, T.budget, T.start, T.revert, T.least] = b7) := hv
  clear hv
  cases b7
  · go_wp2
    go_ret
    exact ⟨ret_bool (by unfold tabMay; simp only [HB1.out, HB2.out, HB3.out, HB4.out, HB5.out, HB6.out, HB7.out, Bool.true_and, Bool.false_and, Bool.and_true, Bool.and_false]), S7.out.bel⟩
  go_wp2_with fail
  refine (within_len 2 (some ⟨w.heap.size, 121, none⟩) 8 T.flash 8 Lf.out _ (ints_in S7.out.blk 121 8 _ C.out.flash Lf.out (by decide))).mono ?_
  rintro e w8 ⟨rfl, rfl⟩
  have S8 := S7
  generalize hv : allIn 2 T.flash = b8
  have HB8 : Hid (allIn 2 T.flash = b8) := hv
  clear hv
  cases b8
  · go_wp2
    go_ret
    exact ⟨ret_bool (by unfold tabMay; simp only [HB1.out, HB2.out, HB3.out, HB4.out, HB5.out, HB6.out, HB7.out, HB8.out, Bool.true_and, Bool.false_and, Bool.and_true, Bool.and_false]), S8.out.bel⟩
  have c129 := S8.out.cell C.out.window
  have c130 := S8.out.cell C.out.share
  go_wp2_with fail
  refine (within_any 2147483647 _ _ [T.window, T.share] _ (row_new _ _ [T.window, T.share] 2 rfl (by decide) _ rfl)).mono ?_
  rintro e w9 ⟨rfl, hw⟩
  have hb9 : Below w7.heap.size w7 w9 := hw ▸ (Below.refl _ _).alloc (Nat.le_refl _) _
  clear hw
  have S9 := Lib.hid (S8.out.step hb9)
  clear hb9 S8
  generalize hv : allIn 2147483647 [T.window, T.share] = b9
  have HB9 : Hid (allIn 2147483647 [T.window, T.share] = b9) := hv
  clear hv
  go_wp2
  go_ret
  exact ⟨ret_bool (by unfold tabMay; simp only [HB1.out, HB2.out, HB3.out, HB4.out, HB5.out, HB6.out, HB7.out, HB8.out, HB9.out, Bool.true_and, Bool.false_and, Bool.and_true, Bool.and_false]), S9.out.bel⟩
end Go.Proofs.Ytfnpcfibgabmfaa.May
