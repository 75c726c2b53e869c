/- 12 texts in one file, in build order. -/
import Derived.Test.YtjolhoilcibdfaaGreatRows
import Derived.Test.YtjolhoilcibdfaaGreatPart06
import Derived.Test.YtjolhoilcibdfaaGreatPart11
import Derived.Test.YtjolhoilcibdfaaGreatPart04
set_option linter.unusedVariables false
set_option linter.unusedSimpArgs false
set_option linter.unusedSectionVars false
/- A boxed table whose lists are older than the box: what it becomes where a phase or a number is written. -/
namespace Go.Proofs.YtjolhoilcibdfaaGreat.Kx
open Go Go.RowKit
open Tab Gath GenG GenT Clone
set_option linter.unusedVariables false
set_option linter.unusedSimpArgs false
structure Kx (w0 : World) (tb : Nat) (hd : Hd) (T : Tab) (W : World) : Prop where
  bel : Below w0.heap.size w0 W
  tbB : w0.heap.size ≤ tb
  blk : W.heap[tb]? = some (.cells (T.cells hd).toArray 32 (0, 0))
  tab : IsTab w0 hd T
theorem Kx.isTab {w0 : World} {tb : Nat} {hd : Hd} {T : Tab} {W : World} (h : Kx w0 tb hd T W) : IsTab W hd T := h.tab.below h.bel
theorem Kx.size {w0 : World} {tb : Nat} {hd : Hd} {T : Tab} {W : World} (h : Kx w0 tb hd T W) : tb < W.heap.size := (Array.getElem?_eq_some_iff.1 h.blk).1
theorem Kx.step {w0 : World} {tb : Nat} {hd : Hd} {T : Tab} {W W' : World} (h : Kx w0 tb hd T W) (hb : Below W.heap.size W W') : Kx w0 tb hd T W' :=
  ⟨h.bel.trans (hb.mono h.bel.size), h.tbB, (hb.block _ h.size).trans h.blk, h.tab⟩
theorem Kx.cell {w0 : World} {tb : Nat} {hd : Hd} {T : Tab} {W : World} (h : Kx w0 tb hd T W) (i : Nat) : W.cell? ⟨tb, i, none⟩ = (T.cells hd)[i]? := by
  rw [cell_of_row _ _ _ _ _ _ h.blk]; simp
theorem Kx.frozen {w0 : World} {tb : Nat} {hd : Hd} {T : Tab} {W : World} (h : Kx w0 tb hd T W) (i : Nat) : W.frozen? ⟨tb, i, none⟩ = false := frozen_of_row _ _ _ _ _ h.blk
theorem Kx.lies {w0 : World} {tb : Nat} {hd : Hd} {T : Tab} {W : World} (h : Kx w0 tb hd T W) : Lies W ⟨tb, 0, none⟩ (T.cells hd) := by have := Row.lies_of_block h.blk; simpa using this
theorem Kx.write {w0 : World} {tb : Nat} {hd : Hd} {T U : Tab} {W W' : World} (h : Kx w0 tb hd T W) (hg : W.grownBy W' (some tb)) (hb : W'.heap[tb]? = some (.cells (U.cells hd).toArray 32 (0, 0)))
    (h1 : U.phases.length = 8) (h2 : U.conflict.length = 8) (h3 : U.flash.length = 8) (e1 : U.groups = T.groups) (e2 : U.dets = T.dets) (e3 : U.rails = T.rails) (e4 : U.buses = T.buses) : Kx w0 tb hd U W' :=
  ⟨h.bel.grown hg h.bel.size (fun k hk => by cases hk; exact h.tbB), h.tbB, hb, ⟨h1, h2, h3, by rw [e1]; exact h.tab.groups, by rw [e2]; exact h.tab.dets, by rw [e3]; exact h.tab.rails, by rw [e4]; exact h.tab.buses⟩⟩
theorem Kx.set {w0 : World} {tb : Nat} {hd : Hd} {T U : Tab} {W : World} (h : Kx w0 tb hd T W) (i : Nat) (v : Value) (hc : (T.cells hd).set i v = U.cells hd)
    (h1 : U.phases.length = 8) (h2 : U.conflict.length = 8) (h3 : U.flash.length = 8) (e1 : U.groups = T.groups) (e2 : U.dets = T.dets) (e3 : U.rails = T.rails) (e4 : U.buses = T.buses) : Kx w0 tb hd U (W.setCell ⟨tb, i, none⟩ v) :=
  h.write (grown_set _ _ _ _) (by rw [heap_setCell_same _ _ _ _ _ _ h.blk, ← hc]; simp) h1 h2 h3 e1 e2 e3 e4
theorem Kx.store_ph {w0 : World} {tb : Nat} {hd : Hd} {T : Tab} {W : World} (h : Kx w0 tb hd T W) (p : Nat) (hp : p < 8) (x : Ph) :
    ∃ W', Sem.run Tryz.prog (storeCells ⟨tb, p * 13, none⟩ x.cells) W = .ok () W' ∧ Kx w0 tb hd { T with phases := T.phases.set p x } W' := by
  have hl := cells_cut hd h.tab.ph h.tab.cf h.tab.fl
  have hr := run_storeCells_at Tryz.prog tb (p * 13) 32 x.cells 0 (T.cells hd).toArray W h.blk (by simp [hl, Ph.cells]; omega) (fun v hv => (Array.all_eq_true_iff_forall_mem.1 (Ph.one x)) v (by simpa using hv))
  simp only [Nat.add_zero] at hr
  refine ⟨_, hr, h.write (setRow_grown _ _ _ h.size) ?_ (by simp [h.tab.ph]) h.tab.cf h.tab.fl rfl rfl rfl rfl⟩
  rw [setRow_heap _ _ _ _ _ _ h.blk, ← cells_phase hd h.tab.ph p hp x, Nat.mul_comm 13 p]
  rfl
end Go.Proofs.YtjolhoilcibdfaaGreat.Kx
/- A boxed table of which one number of a phase is written. -/
namespace Go.Proofs.YtjolhoilcibdfaaGreat.Ky
open Go Go.RowKit
open Tab Gath GenG GenT Clone Kx
set_option linter.unusedVariables false
set_option linter.unusedSimpArgs false
theorem flat_set {α : Type} {f : α → List Value} {n : Nat} (hf : ∀ x, (f x).length = n) {x : α} {v : Value} {j : Nat} (hj : j < n) : ∀ {l : List α} {k : Nat} {u : α}, l[k]? = some u → (f u).set j v = f x → (l.flatMap f).set (k * n + j) v = (l.set k x).flatMap f
  | [], k, u, h, _ => by simp at h
  | y :: l, 0, u, h, e => by
    obtain rfl : y = u := by simpa using h
    rw [List.flatMap_cons, List.set_cons_zero, List.flatMap_cons, Nat.zero_mul, Nat.zero_add, List.set_append_left _ _ (by rw [hf]; exact hj), e]
  | y :: l, k + 1, u, h, e => by
    rw [List.flatMap_cons, List.set_cons_succ, List.flatMap_cons, List.set_append_right _ _ (by rw [hf, Nat.add_mul]; omega), hf, show (k + 1) * n + j - n = k * n + j by rw [Nat.add_mul]; omega, flat_set hf hj (l := l) (by simpa using h) e]
theorem flat_at {α : Type} {f : α → List Value} {n : Nat} (hf : ∀ x, (f x).length = n) {j : Nat} (hj : j < n) : ∀ {l : List α} {k : Nat} {u : α}, l[k]? = some u → (l.flatMap f)[k * n + j]? = (f u)[j]?
  | [], k, u, h => by simp at h
  | y :: l, 0, u, h => by
    obtain rfl : y = u := by simpa using h
    rw [List.flatMap_cons, Nat.zero_mul, Nat.zero_add, List.getElem?_append_left (by rw [hf]; exact hj)]
  | y :: l, k + 1, u, h => by
    rw [List.flatMap_cons, List.getElem?_append_right (by rw [hf, Nat.add_mul]; omega), hf, show (k + 1) * n + j - n = k * n + j by rw [Nat.add_mul]; omega, flat_at hf hj (l := l) (by simpa using h)]
theorem ph_len (u : Ph) : u.cells.length = 13 := rfl
theorem flat_lt {l : List Ph} {k : Nat} {u : Ph} (h : l[k]? = some u) {j : Nat} (hj : j < 13) : k * 13 + j < (l.flatMap Ph.cells).length := by
  have hk := (List.getElem?_eq_some_iff.1 h).1
  rw [Tab.phases_len]; omega
theorem cells_cell {T : Tab} (hd : Hd) {k : Nat} {u x : Ph} (hu : T.phases[k]? = some u) {j : Nat} (hj : j < 13) {v : Value} (hx : u.cells.set j v = x.cells) : (T.cells hd).set (k * 13 + j) v = { T with phases := T.phases.set k x }.cells hd := by
  unfold Tab.cells
  rw [List.set_append_left _ _ (flat_lt hu hj), flat_set ph_len hj hu hx]
theorem cells_at {T : Tab} (hd : Hd) {k : Nat} {u : Ph} (hu : T.phases[k]? = some u) {j : Nat} (hj : j < 13) : (T.cells hd)[k * 13 + j]? = u.cells[j]? := by
  unfold Tab.cells
  rw [List.getElem?_append_left (flat_lt hu hj), flat_at ph_len hj hu]
theorem put {w0 : World} {tb : Nat} {hd : Hd} {T : Tab} {W : World} (h : Kx w0 tb hd T W) {k : Nat} {u x : Ph} (hu : T.phases[k]? = some u) {j : Nat} (hj : j < 13) {v : Value} (hx : u.cells.set j v = x.cells) :
    Kx w0 tb hd { T with phases := T.phases.set k x } (W.setCell ⟨tb, k * 13 + j, none⟩ v) :=
  h.set _ _ (cells_cell hd hu hj hx) (by simp [h.tab.ph]) h.tab.cf h.tab.fl rfl rfl rfl rfl
theorem cell_at {w0 : World} {tb : Nat} {hd : Hd} {T : Tab} {W : World} (h : Kx w0 tb hd T W) {k : Nat} {u : Ph} (hu : T.phases[k]? = some u) {j : Nat} (hj : j < 13) : W.cell? ⟨tb, k * 13 + j, none⟩ = u.cells[j]? := by
  rw [h.cell, cells_at hd hu hj]
/-- A copy of it in a box that is made last. -/
theorem copy {w0 : World} {tb : Nat} {hd : Hd} {T : Tab} {W : World} (h : Kx w0 tb hd T W) : Kx w0 W.heap.size hd T (W.alloc (.cells (T.cells hd).toArray 32)) :=
  ⟨h.bel.trans (((Below.refl _ _).alloc (Nat.le_refl _) _).mono h.bel.size), h.bel.size, heap_alloc_new _ _, h.tab⟩
/-- Another box is as it was where a cell of this one is written. -/
theorem other {w0 : World} {tb ub : Nat} {hd : Hd} {T : Tab} {W : World} (h : Kx w0 tb hd T W) (hn : ub ≠ tb) (hb : w0.heap.size ≤ ub) (i : Nat) (v : Value) : Kx w0 tb hd T (W.setCell ⟨ub, i, none⟩ v) := by
  have hg := grown_set W ub i v
  exact ⟨h.bel.grown hg h.bel.size (fun k hk => by cases hk; exact hb), h.tbB, (hg.block _ h.size (fun e => hn (Option.some.inj e).symm)).trans h.blk, h.tab⟩
theorem cells_window {T : Tab} (hd : Hd) (h8 : T.phases.length = 8) (hc : T.conflict.length = 8) (hf : T.flash.length = 8) (x : Int) : (T.cells hd).set 129 (I x) = { T with window := x }.cells hd := by
  obtain ⟨a0, a1, a2, a3, a4, a5, a6, a7, e⟩ := eight h8
  obtain ⟨c0, c1, c2, c3, c4, c5, c6, c7, e2⟩ := eight hc
  obtain ⟨f0, f1, f2, f3, f4, f5, f6, f7, e3⟩ := eight hf
  obtain ⟨phases, groups, conflict, dets, rails, buses, extend, budget, start, revert, least, flash, window, share⟩ := T
  simp only at e e2 e3
  subst e e2 e3
  rfl
theorem cells_share {T : Tab} (hd : Hd) (h8 : T.phases.length = 8) (hc : T.conflict.length = 8) (hf : T.flash.length = 8) (x : Int) : (T.cells hd).set 130 (I x) = { T with share := x }.cells hd := by
  obtain ⟨a0, a1, a2, a3, a4, a5, a6, a7, e⟩ := eight h8
  obtain ⟨c0, c1, c2, c3, c4, c5, c6, c7, e2⟩ := eight hc
  obtain ⟨f0, f1, f2, f3, f4, f5, f6, f7, e3⟩ := eight hf
  obtain ⟨phases, groups, conflict, dets, rails, buses, extend, budget, start, revert, least, flash, window, share⟩ := T
  simp only at e e2 e3
  subst e e2 e3
  rfl
theorem put_window {w0 : World} {tb : Nat} {hd : Hd} {T : Tab} {W : World} (h : Kx w0 tb hd T W) (x : Int) : Kx w0 tb hd { T with window := x } (W.setCell ⟨tb, 129, none⟩ (I x)) :=
  h.set 129 (I x) (cells_window hd h.tab.ph h.tab.cf h.tab.fl x) h.tab.ph h.tab.cf h.tab.fl rfl rfl rfl rfl
theorem put_share {w0 : World} {tb : Nat} {hd : Hd} {T : Tab} {W : World} (h : Kx w0 tb hd T W) (x : Int) : Kx w0 tb hd { T with share := x } (W.setCell ⟨tb, 130, none⟩ (I x)) :=
  h.set 130 (I x) (cells_share hd h.tab.ph h.tab.cf h.tab.fl x) h.tab.ph h.tab.cf h.tab.fl rfl rfl rfl rfl
theorem at_window {w0 : World} {tb : Nat} {hd : Hd} {T : Tab} {W : World} (h : Kx w0 tb hd T W) : W.cell? ⟨tb, 129, none⟩ = some (I T.window) := by rw [h.cell, ← List.getElem?_toArray, (cells_ok h.tab).window]
theorem at_share {w0 : World} {tb : Nat} {hd : Hd} {T : Tab} {W : World} (h : Kx w0 tb hd T W) : W.cell? ⟨tb, 130, none⟩ = some (I T.share) := by rw [h.cell, ← List.getElem?_toArray, (cells_ok h.tab).share]
/-- The whole table of another box is stored into this one. -/
theorem back {w0 : World} {ub : Nat} {hd : Hd} {T U : Tab} {W : World} (h : Kx w0 ub hd U W) (ht : IsTab w0 hd T) : Kx w0 ub hd T (W.setRow ub (T.cells hd).toArray) :=
  ⟨h.bel.grown (setRow_grown _ _ _ h.size) h.bel.size (fun k hk => by cases hk; exact h.tbB), h.tbB, setRow_heap _ _ _ _ _ _ h.blk, ht⟩
end Go.Proofs.YtjolhoilcibdfaaGreat.Ky
/- The contracts of the document's own Clash and exit. -/
namespace Go.Proofs.YtjolhoilcibdfaaGreat.RkB
open Go.ChangeShapes Go.WideShapes Go.ChangeAt Go.RowKit
open Tab PlaceM PlanM OnS ChkM ChkI
open RefS (rlist_any rhas_any row_of)
open May (ret_bool infoT infoP)
set_option linter.unusedVariables false
set_option linter.unusedSimpArgs false
theorem getD_mem {L : List Int} {q : Nat} (h : q < L.length) : L.getD q 0 ∈ L := by rw [List.getD_eq_getElem?_getD, List.getElem?_eq_getElem h]; exact List.getElem_mem h
theorem any_no {f : Int → Bool} {L : List Int} (h : ∀ j, j < L.length → f (L.getD j 0) = false) : L.any f = false := by
  rw [List.any_eq_false]
  intro z hz
  obtain ⟨i, hi, rfl⟩ := List.getElem_of_mem hz
  have := h i hi
  rw [List.getD_eq_getElem?_getD, List.getElem?_eq_getElem hi] at this
  simpa using this
def pairR (T : Tab) (p q : Int) : Bool := SetM.has (cfAt T p) q || SetM.has (cfAt T q) p
set_option maxRecDepth 100000 in
set_option maxHeartbeats 8000000 in
theorem rclash_any (T : Tab) (h : Hd) (sa sb : Int) (w : World) (ht : IsTab w h T) :
    Calls Tryz.prog 94 #[.agg (T.cells h).toArray, .int .i64 sa, .int .i64 sb] w fun e w' => e = .returned (.bool (clashR T sa sb)) ∧ Below w.heap.size w w' := by
  have hsz := (cells_ok ht).size
  have BX0 := Lib.hid (bxd_new ht)
  have A0 : Hid (Below w.heap.size w (w.alloc (.cells (T.cells h).toArray 32))) := Lib.hid ((Below.refl _ _).alloc (Nat.le_refl _) _)
  obtain ⟨x, hx⟩ : ∃ x, x = clashR T sa sb := ⟨_, rfl⟩
  rw [← hx]
  have HX : Hid (x = (SetM.list sa).any fun p => (SetM.list sb).any (pairR T p)) := Lib.hid hx
  have FR : Hid (∀ p q, pairR T p q = (SetM.has (cfAt T p) q || SetM.has (cfAt T q) p)) := Lib.hid (fun p q => rfl)
  have RA := Lib.hid (rlist_any sa)
  have RB := Lib.hid (rlist_any sb)
  have BDA := Lib.hid (fun q (hq : q ∈ SetM.list sa) => SetM.list_bd _ q hq)
  have BDB := Lib.hid (fun q (hq : q ∈ SetM.list sb) => SetM.list_bd _ q hq)
  have hla := SetM.list_len sa
  have hlb := SetM.list_len sb
  generalize SetM.list sa = La at *
  generalize SetM.list sb = Lb at *
  clear ht hx
  generalize T.cells h = c at *
  go_enter Tryz.func94, Tryz.ntmps94
  go_upto_region 1 with fail
  generalize w.alloc (.cells c.toArray 32) = u at A0 BX0 ⊢
  clear hsz
  go_wp2_with fail
  refine (RA.out _).mono ?_
  rintro e u1 ⟨v, rfl, hown, hb⟩
  obtain ⟨aa, acap, rfl, hrow⟩ := row_of hown
  have HROW := Lib.hid hrow
  have B0 : Hid (Below w.heap.size w u1) := Lib.hid (A0.out.trans (hb.mono A0.out.size))
  have BX1 := Lib.hid (BX0.out.below hb)
  clear hown hrow hb A0 BX0
  go_wp2_with fail
  go_loopw [14] (fun i wr => ∃ q : Nat, q ≤ La.length ∧ i = .int .i64 q ∧ (∀ j, j < q → Lb.any (pairR T (La.getD j 0)) = false) ∧ Below u1.heap.size u1 wr) (fun i _ => La.length - (intOf i).toNat)
  case atStart => exact ⟨0, by omega, rfl, (fun j h => by omega), Below.refl _ _⟩
  case round =>
    obtain ⟨q, hq, rfl, hall, hB⟩ := hrel
    have HA := Lib.hid hall
    have HB := Lib.hid hB
    have BW : Hid (Below w.heap.size w wr) := Lib.hid (B0.out.trans (hB.mono B0.out.size))
    have BX2 := Lib.hid (BX1.out.below hB)
    have HROWA := Lib.hid (HROW.out.below hB)
    clear hall hB
    by_cases hlt : q < La.length
    · obtain ⟨y, rfl, hcells⟩ := HROWA.out.cells hlt
      have cq := hcells q hlt
      have hmem := getD_mem hlt
      have hbd := BDA.out _ hmem
      generalize hz : La.getD q 0 = z at *
      have HZ := Lib.hid hz
      have HM := Lib.hid hmem
      clear hcells hz hmem
      obtain ⟨p, rfl⟩ := Int.eq_ofNat_of_zero_le hbd.1
      have hp8 : ((p : Nat) : Int) < 8 := hbd.2
      go_wp2_with fail
      refine (RB.out _).mono ?_
      rintro e u2 ⟨v, rfl, hown, hb⟩
      obtain ⟨ab, bcap, rfl, hrow⟩ := row_of hown
      have HROWB := Lib.hid hrow
      have HB2 := Lib.hid (HB.out.trans (hb.mono HB.out.size))
      have BW2 : Hid (Below w.heap.size w u2) := Lib.hid (BW.out.trans (hb.mono BW.out.size))
      have BX := Lib.hid (BX2.out.below hb)
      clear hown hrow hb cq BX2 BW HB
      go_wp2_with fail
      go_loopw [21] (fun i wk => ∃ r : Nat, r ≤ Lb.length ∧ i = .int .i64 r ∧ (∀ j, j < r → pairR T p (Lb.getD j 0) = false) ∧ wk = u2) (fun i _ => Lb.length - (intOf i).toNat)
      case atStart => exact ⟨0, by omega, rfl, (fun j h => by omega), rfl⟩
      case round =>
        obtain ⟨r, hr, rfl, hall2, rfl⟩ := hrel
        rename World => wk
        have HA2 := Lib.hid hall2
        clear hall2
        by_cases hlt2 : r < Lb.length
        · obtain ⟨y2, rfl, hcells⟩ := HROWB.out.cells hlt2
          have cr := hcells r hlt2
          have hmem := getD_mem hlt2
          have hbd2 := BDB.out _ hmem
          generalize hz : Lb.getD r 0 = z2 at *
          have HZ2 := Lib.hid hz
          have HM2 := Lib.hid hmem
          clear hcells hz hmem
          obtain ⟨j, rfl⟩ := Int.eq_ofNat_of_zero_le hbd2.1
          have hj8 : ((j : Nat) : Int) < 8 := hbd2.2
          have cp := BX.out.cf p (by omega) (by omega)
          have cj := BX.out.cf j (by omega) (by omega)
          rw [Int.toNat_natCast] at cp cj
          have FQ := Lib.hid (FR.out p j)
          have NEXT : Hid (pairR T p j = false → ∀ i, i < r + 1 → pairR T p (Lb.getD i 0) = false) := Lib.hid (fun e i hi => by
            by_cases h1 : i = r
            · subst h1; rw [HZ2.out]; exact e
            · exact HA2.out i (by omega))
          have STOP : Hid (pairR T p j = true → true = x) := Lib.hid (fun e => by
            rw [HX.out]; symm; rw [List.any_eq_true]; exact ⟨_, HM.out, List.any_eq_true.2 ⟨_, HM2.out, e⟩⟩)
          obtain ⟨ha, hha⟩ : ∃ z, SetM.has (cfAt T p) j = z := ⟨_, rfl⟩
          obtain ⟨hb, hhb⟩ : ∃ z, SetM.has (cfAt T j) p = z := ⟨_, rfl⟩
          rw [hha, hhb] at FQ
          have HHA := Lib.hid hha
          have HHB := Lib.hid hhb
          clear hha hhb
          go_wp2_with fail
          refine (rhas_any _ _ _).mono ?_
          rintro e w' ⟨rfl, rfl⟩
          rw [HHA.out]
          cases ha with
          | true =>
            have SX := Lib.hid (STOP.out (by rw [FQ.out]; rfl))
            go_wp2
            go_ret
            exact ⟨ret_bool SX.out, BW2.out⟩
          | false =>
            go_wp2_with fail
            refine (rhas_any _ _ _).mono ?_
            rintro e w' ⟨rfl, rfl⟩
            rw [HHB.out]
            cases hb with
            | true =>
              have SX := Lib.hid (STOP.out (by rw [FQ.out]; rfl))
              go_wp2
              go_ret
              exact ⟨ret_bool SX.out, BW2.out⟩
            | false =>
              have NX := Lib.hid (NEXT.out (by rw [FQ.out]; rfl))
              go_wp2
              go_roundw
              case rel => exact ⟨r + 1, by omega, by go_num, NX.out, trivial⟩
              case measure => simp [intOf]; omega
        · have NX : Hid (∀ i, i < q + 1 → Lb.any (pairR T (La.getD i 0)) = false) := Lib.hid (fun i hi => by
            by_cases h1 : i = q
            · subst h1; rw [HZ.out]; exact any_no (fun j hj => HA2.out j (by omega))
            · exact HA.out i (by omega))
          go_wp2
          go_roundw
          case rel => exact ⟨q + 1, by omega, by go_num, NX.out, HB2.out⟩
          case measure => simp [intOf]; omega
    · have SX : Hid (false = x) := Lib.hid (by
        rw [HX.out, any_no (f := fun p => Lb.any (pairR T p)) (fun j hj => HA.out j (by omega))])
      go_wp2
      go_ret
      exact ⟨ret_bool SX.out, BW.out⟩
theorem pairs_yes {T : Tab} {L : List Int} (h : ∀ i, i < L.length → ∀ k, k < i → beside T (L.getD i 0) (L.getD k 0) = true) : pairs T L = true := by
  unfold pairs
  rw [List.all_eq_true]
  intro i hi
  rw [List.all_eq_true]
  intro k hk
  exact h i (List.mem_range.1 hi) k (List.mem_range.1 hk)
theorem pairs_no {T : Tab} {L : List Int} {i k : Nat} (hi : i < L.length) (hk : k < i) (h : beside T (L.getD i 0) (L.getD k 0) = false) : pairs T L = false := by
  unfold pairs
  rw [List.all_eq_false]
  refine ⟨i, List.mem_range.2 hi, ?_⟩
  rw [Bool.not_eq_true, List.all_eq_false]
  exact ⟨k, List.mem_range.2 hk, by simp only [h]; simp⟩
set_option maxRecDepth 100000 in
set_option maxHeartbeats 8000000 in
theorem exit_any (T : Tab) (h : Hd) (s : Int) (w : World) (ht : IsTab w h T) (sm : Few T) :
    Calls Tryz.prog 93 #[.agg (T.cells h).toArray, .int .i64 s] w fun e w' => e = .returned (.bool (exitR T s)) ∧ Below w.heap.size w w' := by
  have hsz := (cells_ok ht).size
  have IA : Hid ((Tryz.prog.info? 32).map (·.size) = some (T.cells h).length) := Lib.hid (by rw [List.size_toArray] at hsz; rw [hsz]; exact infoT)
  have BS : Hid (∀ (p q : Int) W, Below w.heap.size w W → Calls Tryz.prog 42 #[.agg (T.cells h).toArray, .int .i64 p, .int .i64 q] W fun e w' => e = .returned (.bool (beside T p q)) ∧ Below W.heap.size W w') := Lib.hid (fun p q W hb => Where.beside_any T h p q W (ht.below hb) sm)
  have LT0 := Lib.hid (Row.lies_new w (T.cells h).toArray 32)
  have A0 : Hid (Below w.heap.size w (w.alloc (.cells (T.cells h).toArray 32))) := Lib.hid ((Below.refl _ _).alloc (Nat.le_refl _) _)
  obtain ⟨x, hx⟩ : ∃ x, x = exitR T s := ⟨_, rfl⟩
  rw [← hx]
  have HX : Hid (x = (pairs T (SetM.list s) && decide (0 < (SetM.list s).length))) := Lib.hid hx
  have PY := Lib.hid (fun (h : ∀ i, i < (SetM.list s).length → ∀ k, k < i → beside T ((SetM.list s).getD i 0) ((SetM.list s).getD k 0) = true) => pairs_yes h)
  have PN := Lib.hid (fun (i k : Nat) (hi : i < (SetM.list s).length) (hk : k < i) (h : beside T ((SetM.list s).getD i 0) ((SetM.list s).getD k 0) = false) => pairs_no hi hk h)
  have RA := Lib.hid (rlist_any s)
  have hla := SetM.list_len s
  generalize SetM.list s = L at *
  clear ht hx
  generalize T.cells h = c at *
  go_enter Tryz.func93, Tryz.ntmps93
  go_upto_region 1 with fail
  generalize w.alloc (.cells c.toArray 32) = u at A0 LT0 ⊢
  clear hsz
  go_wp2_with fail
  refine (RA.out _).mono ?_
  rintro e u1 ⟨v, rfl, hown, hb⟩
  obtain ⟨aa, acap, rfl, hrow⟩ := row_of hown
  have HROW := Lib.hid hrow
  have B0 : Hid (Below w.heap.size w u1) := Lib.hid (A0.out.trans (hb.mono A0.out.size))
  have LT1 := Lib.hid (LT0.out.below hb)
  clear hown hrow hb A0 LT0
  go_wp2_with fail
  go_loopw [6] (fun i wr => ∃ q : Nat, q ≤ L.length ∧ i = .int .i64 q ∧ (∀ i, i < q → ∀ k, k < i → beside T (L.getD i 0) (L.getD k 0) = true) ∧ Below u1.heap.size u1 wr) (fun i _ => L.length - (intOf i).toNat)
  case atStart => exact ⟨0, by omega, rfl, (fun j h => by omega), Below.refl _ _⟩
  case round =>
    obtain ⟨q, hq, rfl, hall, hB⟩ := hrel
    have HA := Lib.hid hall
    have HB := Lib.hid hB
    clear hall hB
    by_cases hlt : q < L.length
    · go_wp2_with fail
      go_loopw [7] (fun i wk => ∃ r : Nat, r ≤ q ∧ i = .int .i64 r ∧ (∀ k, k < r → beside T (L.getD q 0) (L.getD k 0) = true) ∧ Below wr.heap.size wr wk) (fun i _ => q - (intOf i).toNat)
      case atStart => exact ⟨0, by omega, rfl, (fun j h => by omega), Below.refl _ _⟩
      case round =>
        obtain ⟨r, hr, rfl, hall2, hB2⟩ := hrel
        rename World => wk
        have HA2 := Lib.hid hall2
        have HB2 := Lib.hid hB2
        have HBK := Lib.hid (HB.out.trans (hB2.mono HB.out.size))
        clear hall2 hB2
        by_cases hlt2 : r < q
        · have BW : Hid (Below w.heap.size w wk) := Lib.hid (B0.out.trans (HBK.out.mono B0.out.size))
          have LT := Lib.hid (LT1.out.below HBK.out)
          obtain ⟨y, rfl, hcells⟩ := (HROW.out.below HBK.out).cells hlt
          have cq := hcells q hlt
          have cr := hcells r (by omega)
          have PNQ := Lib.hid (PN.out q r hlt hlt2)
          obtain ⟨bs, hbs⟩ : ∃ z, beside T (L.getD q 0) (L.getD r 0) = z := ⟨_, rfl⟩
          have HBS := Lib.hid hbs
          have BSQ : Hid (∀ p : Ph.S (Row.Old wk), Calls Tryz.prog 42 #[.agg c.toArray, .int .i64 (L.getD q 0), .int .i64 (L.getD r 0)] p.world fun e w' => e = .returned (.bool bs) ∧ Below p.world.heap.size p.world w') := Lib.hid (fun p => by have := BS.out (L.getD q 0) (L.getD r 0) p.world (BW.out.trans (p.is.mono BW.out.size)); rwa [hbs] at this)
          clear hbs hcells
          generalize L.getD q 0 = zq at *
          generalize hzr : L.getD r 0 = zr at *
          have HZR := Lib.hid hzr
          clear hzr
          have hne : Nonempty (Ph.S (Row.Old wk)) := ⟨⟨0, wk, Below.refl _ _⟩⟩
          have CQ : ∀ p : Ph.S (Row.Old wk), p.world.cell? (y.add q) = some (.int .i64 zq) := fun p => (p.is.cell (World.block_lt_of_cell? wk _ cq)).trans cq
          have CR : ∀ p : Ph.S (Row.Old wk), p.world.cell? (y.add r) = some (.int .i64 zr) := fun p => (p.is.cell (World.block_lt_of_cell? wk _ cr)).trans cr
          clear cq cr
          have hqi : ((q : Nat) : Int) < (L.length : Nat) := by omega
          have hri : ((r : Nat) : Int) < (L.length : Nat) := by omega
          have hrq : ((r : Nat) : Int) < (q : Nat) := by omega
          go_upto_region 8 with fail
          refine Pw.region (Row.Old wk) [] hmx (by kernel_rfl) (Row.Old.drew _) ?_
          refine Pw.load rfl (by rfl) 32 _ rfl ⟨w.heap.size, 0, none⟩ rfl c _ (fun p => LT.out.below p.is) Tryz.underlying32 rfl IA.out ?_
          (try dsimp only [Act.put]); (try simp only [List.setIfInBounds_toArray, List.set_cons_zero, List.set_cons_succ])
          iterate 8
            (refine Pw.calm rfl (fun K hK => ?_)
             go_simp
             refine hK _ ?_
             clear hK K)
          (refine Pw.calm rfl (fun K hK => ?_)
           go_simp
           refine ⟨_, fun p => Row.Old.call (BSQ.out p), hK _ ?_⟩
           clear hK K)
          iterate 1
            (refine Pw.calm rfl (fun K hK => ?_)
             go_simp
             refine hK _ ?_
             clear hK K)
          refine Pw.nil ?_
          intro uz hbz
          have EZ : Hid (Below w.heap.size w uz) := Lib.hid (BW.out.trans (hbz.mono BW.out.size))
          have EK := Lib.hid (HB2.out.trans (hbz.mono HB2.out.size))
          clear hbz CQ CR hne
          cases bs with
          | true =>
            have NX : Hid (∀ k, k < r + 1 → beside T zq (L.getD k 0) = true) := Lib.hid (fun k hk => by
              by_cases h1 : k = r
              · subst h1; rw [HZR.out]; exact HBS.out
              · exact HA2.out k (by omega))
            go_wp2
            go_roundw
            case rel => exact ⟨r + 1, by omega, by go_num, NX.out, EK.out⟩
            case measure => simp [intOf]; omega
          | false =>
            have SX : Hid (false = x) := Lib.hid (by rw [HX.out, PNQ.out HBS.out]; rfl)
            go_wp2
            go_ret
            exact ⟨ret_bool SX.out, EZ.out⟩
        · have NX : Hid (∀ i, i < q + 1 → ∀ k, k < i → beside T (L.getD i 0) (L.getD k 0) = true) := Lib.hid (fun i hi k hk => by
            by_cases h1 : i = q
            · subst h1; exact HA2.out k (by omega)
            · exact HA.out i (by omega) k hk)
          go_wp2
          go_roundw
          case rel => exact ⟨q + 1, by omega, by go_num, NX.out, HBK.out⟩
          case measure => simp [intOf]; omega
    · have SX : Hid (x = decide (0 < L.length)) := Lib.hid (by
        rw [HX.out, PY.out (fun i hi k hk => HA.out i (by omega) k hk)]; simp)
      have BW : Hid (Below w.heap.size w wr) := Lib.hid (B0.out.trans (HB.out.mono B0.out.size))
      go_wp2
      go_ret
      exact ⟨ret_bool (by rw [SX.out]), BW.out⟩
end Go.Proofs.YtjolhoilcibdfaaGreat.RkB
/- The times of a rail, as the document asks. -/
namespace Go.Proofs.YtjolhoilcibdfaaGreat.RkC
open Go.ChangeShapes Go.WideShapes Go.ChangeAt Go.RowKit
open Tab PlaceM PlanM OnS ChkM ChkA
open ChkB (laid2)
open May (ret_bool infoT infoR)
set_option linter.unusedVariables false
set_option linter.unusedSimpArgs false
def timesOk (r : Rl) : Bool := (decide (0 < r.hold) == (r.clear != 0)) && (decide (1 ≤ r.green) && (decide (1 ≤ r.stay) && ((r.most == 0 || decide (r.stay ≤ r.most)) && decide (r.delay < r.limit))))
end Go.Proofs.YtjolhoilcibdfaaGreat.RkC
/- Operations that are passed over, and moves and picks of literal booleans: all of a region's rest in one step that the kernel computes. No program in it. -/
namespace Go.Proofs.YtjolhoilcibdfaaGreat.Early
open Go Go.RowKit
def outB (ops : Array Oper) : List Oper → Act → Option Act
  | [], a => some a
  | o :: l, a =>
    if Region.wanted o (yielded ops a.tmps) then
      (match o.op with
       | .move x => outB ops l (a.put o.dst (a.eval x))
       | .assign x => outB ops l (a.put o.dst (a.eval x))
       | .pick c x y => (match a.eval c with
         | .bool b => outB ops l (a.put o.dst (if b then a.eval x else a.eval y))
         | _ => none)
       | _ => none)
    else outB ops l (a.put o.dst undef)
theorem out {P : Program} {ops : Array Oper} {Q : Exit → Act → World → Prop} {w : World} : ∀ {l : List Oper} {a a' : Act}, outB ops l a = some a' → Q .normal a' w → wpList P ops Q l a w
  | [], a, a', h, hQ => by
    obtain rfl : a = a' := Option.some.inj h
    exact hQ
  | o :: l, a, a', h, hQ => by
    unfold outB at h
    unfold wpList
    split at h
    · rename_i hw
      rw [if_pos hw]
      refine .inl ?_
      obtain ⟨dst, op, type, pos, after, guard⟩ := o
      unfold Oper.wp
      cases op with
      | move x => exact out (l := l) h hQ
      | assign x => exact out (l := l) h hQ
      | pick c x y =>
        dsimp only at h
        have hx : ∀ b, a.eval c = .bool b → (execOp a.eval { dst, op := .pick c x y, type, pos, after, guard }).run P w = .ok (.value (if b then a.eval x else a.eval y)) w := by
          intro b hb
          simp only [execOp, hb]
          cases b <;> rfl
        cases hc : a.eval c with
        | bool b =>
          rw [hc] at h
          rw [hx b hc]
          exact out (l := l) h hQ
        | _ => rw [hc] at h; cases h
      | _ => cases h
    · rename_i hw
      rw [if_neg hw]
      exact out (l := l) h hQ
theorem out_get {P : Program} {ops : Array Oper} {Q : Exit → Act → World → Prop} {w : World} {l : List Oper} {a : Act} (h : (outB ops l a).isSome = true) (hQ : Q .normal ((outB ops l a).getD a) w) : wpList P ops Q l a w := by
  cases e : outB ops l a with
  | none => rw [e] at h; cases h
  | some a' => rw [e] at hQ; exact out e hQ
theorem skip {P : Program} {ops : Array Oper} {Q : Exit → Act → World → Prop} {w : World} {o : Oper} {l : List Oper} {a : Act} (h : Region.wanted o (yielded ops a.tmps) = false) (hr : wpList P ops Q l (a.put o.dst undef) w) : wpList P ops Q (o :: l) a w := by
  unfold wpList
  rw [if_neg (by rw [h]; simp)]
  exact hr
end Go.Proofs.YtjolhoilcibdfaaGreat.Early
/- The document's own rail: one way through it (0). -/
namespace Go.Proofs.YtjolhoilcibdfaaGreat.RkC
open Go.ChangeShapes Go.WideShapes Go.ChangeAt Go.RowKit
open Tab PlaceM PlanM OnS ChkM ChkA
open ChkB (laid2)
open May (ret_bool infoT infoR)
set_option linter.unusedVariables false
set_option linter.unusedSimpArgs false
set_option maxRecDepth 100000 in
set_option maxHeartbeats 8000000 in
theorem rail_0 (T : Tab) (h : Hd) (r : Rl) (w : World) (ht : IsTab w h T) (sm : Few T) (z0 : inR (or4 r) (onS T : Nat) = false) :
    Calls Tryz.prog 52 #[.agg (T.cells h).toArray, .agg r.cells.toArray, .int .i64 (onS T : Nat)] w fun e w' => e = .returned (.bool (railOk T r)) ∧ Below w.heap.size w w' := by
  have hsz := (cells_ok ht).size
  have IA : Hid ((Tryz.prog.info? 32).map (·.size) = some (T.cells h).length) := Lib.hid (by rw [List.size_toArray] at hsz; rw [hsz]; exact infoT)
  have AO : Hid (∀ W, Calls Tryz.prog 53 #[.int .i64 (or4 r), .int .i64 (onS T : Nat)] W fun e w' => e = .returned (.bool (inR (or4 r) (onS T : Nat))) ∧ W = w') := Lib.hid (fun W => RkA.in_any _ _ W)
  have CL : Hid (∀ s W, Below w.heap.size w W → Calls Tryz.prog 94 #[.agg (T.cells h).toArray, .int .i64 s, .int .i64 s] W fun e w' => e = .returned (.bool (clashR T s s)) ∧ Below W.heap.size W w') := Lib.hid (fun s W hb => RkB.rclash_any T h s s W (ht.below hb))
  have AB : Hid (∀ s W, Below w.heap.size w W → Calls Tryz.prog 93 #[.agg (T.cells h).toArray, .int .i64 s] W fun e w' => e = .returned (.bool (exitR T s)) ∧ Below W.heap.size W w') := Lib.hid (fun s W hb => RkB.exit_any T h s W (ht.below hb) sm)
  obtain ⟨x, hx⟩ : ∃ x, x = railOk T r := ⟨_, rfl⟩
  rw [← hx]
  have HR : Hid (x = ((inR (or4 r) (onS T : Nat) && (r.dwell != 0 && (bits .and .i64 r.dwell r.bars == 0 && exitR T r.exit))) && (!clashR T r.clear r.clear && (!clashR T r.dwell r.dwell && (!clashR T r.exit r.exit && timesOk r))))) := Lib.hid hx
  have LT0 := Lib.hid (Row.lies_new w (T.cells h).toArray 32)
  have hs1 : (w.alloc (.cells (T.cells h).toArray 32)).heap.size = w.heap.size + 1 := by simp
  have hone := Rl.one r
  have hsz2 : r.cells.toArray.size = 11 := rfl
  have RC := Lib.hid (rail_cells r)
  have O4 : Hid (bits .or .i64 (bits .or .i64 (bits .or .i64 r.bars r.clear) r.dwell) r.exit = or4 r) := Lib.hid rfl
  obtain ⟨a1, ha1⟩ : ∃ z, inR (or4 r) (onS T : Nat) = z := ⟨_, rfl⟩
  obtain ⟨c1, hc1⟩ : ∃ z, clashR T r.clear r.clear = z := ⟨_, rfl⟩
  obtain ⟨c2, hc2⟩ : ∃ z, clashR T r.dwell r.dwell = z := ⟨_, rfl⟩
  obtain ⟨c3, hc3⟩ : ∃ z, clashR T r.exit r.exit = z := ⟨_, rfl⟩
  obtain ⟨b1, hb1⟩ : ∃ z, exitR T r.exit = z := ⟨_, rfl⟩
  have CL1 := Lib.hid (CL.out r.clear)
  have CL2 := Lib.hid (CL.out r.dwell)
  have CL3 := Lib.hid (CL.out r.exit)
  have AB1 := Lib.hid (AB.out r.exit)
  rw [ha1] at AO HR
  rw [hc1] at CL1 HR
  rw [hc2] at CL2 HR
  rw [hc3] at CL3 HR
  rw [hb1] at AB1 HR
  have TO : Hid (timesOk r = ((decide (0 < r.hold) == (r.clear != 0)) && (decide (1 ≤ r.green) && (decide (1 ≤ r.stay) && ((r.most == 0 || decide (r.stay ≤ r.most)) && decide (r.delay < r.limit)))))) := Lib.hid rfl
  rw [show a1 = false from ha1.symm.trans z0] at AO HR
  clear hx ht CL AB ha1 hc1 hc2 hc3 hb1
  generalize timesOk r = tk at *
  clear z0
  generalize or4 r = o4 at *
  generalize r.cells = rc at *
  obtain ⟨bars, clear_, dwell, exit, delay, green, foot, hold, stay, most, limit⟩ := r
  dsimp only at *
  generalize T.cells h = c at *
  generalize (((onS T : Nat)) : Int) = on at *
  go_enter Tryz.func52, Tryz.ntmps52
  go_upto_region 1 with fail
  obtain ⟨u, hu, E1, E0, EB, b1'⟩ := laid2 w (.cells c.toArray 32) (.cells rc.toArray 47)
  rw [hu]
  have A0 := Lib.hid E0
  have A1 := Lib.hid (LT0.out.below (by rw [hs1]; exact EB))
  have A2 : Hid (u.heap[w.heap.size + 1]? = some (.cells rc.toArray 47 (0, 0))) := Lib.hid b1'
  clear hu EB LT0 b1' hs1 hsz hsz2 hone E0 E1
  obtain ⟨q0, q1, q2, q3, q4, q5, q7, q8, q9, q10⟩ := RC.out _ _ A2.out
  go_wp2_with fail
  rw [O4.out]
  refine (AO.out _).mono ?_
  rintro e w' ⟨rfl, rfl⟩
  rename_i Q1 K1 hK1 K2 hK2
  refine hK2 _ _ ?_
  have HX : Hid (false = x) := Lib.hid (by rw [HR.out]; rfl)
  clear HR RC
  refine Early.out_get (by kernel_rfl) ?_
  refine hK1 _ _ ?_
  refine wp_seq (wp_region_lit ?_)
  refine Early.out_get (by kernel_rfl) ?_
  refine wp_ret ?_
  exact bodyPost_ret (v := .bool false) (by kernel_rfl) (by kernel_rfl) ⟨ret_bool HX.out, A0.out⟩
end Go.Proofs.YtjolhoilcibdfaaGreat.RkC
/- The document's own rail: one way through it (1). -/
namespace Go.Proofs.YtjolhoilcibdfaaGreat.RkC
open Go.ChangeShapes Go.WideShapes Go.ChangeAt Go.RowKit
open Tab PlaceM PlanM OnS ChkM ChkA
open ChkB (laid2)
open May (ret_bool infoT infoR)
set_option linter.unusedVariables false
set_option linter.unusedSimpArgs false
set_option maxRecDepth 100000 in
set_option maxHeartbeats 8000000 in
theorem rail_1 (T : Tab) (h : Hd) (r : Rl) (w : World) (ht : IsTab w h T) (sm : Few T) (z0 : inR (or4 r) (onS T : Nat) = true) (z1 : r.dwell = 0) :
    Calls Tryz.prog 52 #[.agg (T.cells h).toArray, .agg r.cells.toArray, .int .i64 (onS T : Nat)] w fun e w' => e = .returned (.bool (railOk T r)) ∧ Below w.heap.size w w' := by
  have hsz := (cells_ok ht).size
  have IA : Hid ((Tryz.prog.info? 32).map (·.size) = some (T.cells h).length) := Lib.hid (by rw [List.size_toArray] at hsz; rw [hsz]; exact infoT)
  have AO : Hid (∀ W, Calls Tryz.prog 53 #[.int .i64 (or4 r), .int .i64 (onS T : Nat)] W fun e w' => e = .returned (.bool (inR (or4 r) (onS T : Nat))) ∧ W = w') := Lib.hid (fun W => RkA.in_any _ _ W)
  have CL : Hid (∀ s W, Below w.heap.size w W → Calls Tryz.prog 94 #[.agg (T.cells h).toArray, .int .i64 s, .int .i64 s] W fun e w' => e = .returned (.bool (clashR T s s)) ∧ Below W.heap.size W w') := Lib.hid (fun s W hb => RkB.rclash_any T h s s W (ht.below hb))
  have AB : Hid (∀ s W, Below w.heap.size w W → Calls Tryz.prog 93 #[.agg (T.cells h).toArray, .int .i64 s] W fun e w' => e = .returned (.bool (exitR T s)) ∧ Below W.heap.size W w') := Lib.hid (fun s W hb => RkB.exit_any T h s W (ht.below hb) sm)
  obtain ⟨x, hx⟩ : ∃ x, x = railOk T r := ⟨_, rfl⟩
  rw [← hx]
  have HR : Hid (x = ((inR (or4 r) (onS T : Nat) && (r.dwell != 0 && (bits .and .i64 r.dwell r.bars == 0 && exitR T r.exit))) && (!clashR T r.clear r.clear && (!clashR T r.dwell r.dwell && (!clashR T r.exit r.exit && timesOk r))))) := Lib.hid hx
  have LT0 := Lib.hid (Row.lies_new w (T.cells h).toArray 32)
  have hs1 : (w.alloc (.cells (T.cells h).toArray 32)).heap.size = w.heap.size + 1 := by simp
  have hone := Rl.one r
  have hsz2 : r.cells.toArray.size = 11 := rfl
  have RC := Lib.hid (rail_cells r)
  have O4 : Hid (bits .or .i64 (bits .or .i64 (bits .or .i64 r.bars r.clear) r.dwell) r.exit = or4 r) := Lib.hid rfl
  obtain ⟨a1, ha1⟩ : ∃ z, inR (or4 r) (onS T : Nat) = z := ⟨_, rfl⟩
  obtain ⟨c1, hc1⟩ : ∃ z, clashR T r.clear r.clear = z := ⟨_, rfl⟩
  obtain ⟨c2, hc2⟩ : ∃ z, clashR T r.dwell r.dwell = z := ⟨_, rfl⟩
  obtain ⟨c3, hc3⟩ : ∃ z, clashR T r.exit r.exit = z := ⟨_, rfl⟩
  obtain ⟨b1, hb1⟩ : ∃ z, exitR T r.exit = z := ⟨_, rfl⟩
  have CL1 := Lib.hid (CL.out r.clear)
  have CL2 := Lib.hid (CL.out r.dwell)
  have CL3 := Lib.hid (CL.out r.exit)
  have AB1 := Lib.hid (AB.out r.exit)
  rw [ha1] at AO HR
  rw [hc1] at CL1 HR
  rw [hc2] at CL2 HR
  rw [hc3] at CL3 HR
  rw [hb1] at AB1 HR
  have TO : Hid (timesOk r = ((decide (0 < r.hold) == (r.clear != 0)) && (decide (1 ≤ r.green) && (decide (1 ≤ r.stay) && ((r.most == 0 || decide (r.stay ≤ r.most)) && decide (r.delay < r.limit)))))) := Lib.hid rfl
  rw [show a1 = true from ha1.symm.trans z0] at AO HR
  clear hx ht CL AB ha1 hc1 hc2 hc3 hb1
  generalize timesOk r = tk at *
  clear z0
  generalize or4 r = o4 at *
  generalize r.cells = rc at *
  obtain ⟨bars, clear_, dwell, exit, delay, green, foot, hold, stay, most, limit⟩ := r
  dsimp only at *
  generalize T.cells h = c at *
  generalize (((onS T : Nat)) : Int) = on at *
  go_enter Tryz.func52, Tryz.ntmps52
  go_upto_region 1 with fail
  obtain ⟨u, hu, E1, E0, EB, b1'⟩ := laid2 w (.cells c.toArray 32) (.cells rc.toArray 47)
  rw [hu]
  have A0 := Lib.hid E0
  have A1 := Lib.hid (LT0.out.below (by rw [hs1]; exact EB))
  have A2 : Hid (u.heap[w.heap.size + 1]? = some (.cells rc.toArray 47 (0, 0))) := Lib.hid b1'
  clear hu EB LT0 b1' hs1 hsz hsz2 hone E0 E1
  have H1 := Lib.hid z1
  clear z1
  have zb : (dwell != 0) = false := by rw [H1.out]; rfl
  obtain ⟨q0, q1, q2, q3, q4, q5, q7, q8, q9, q10⟩ := RC.out _ _ A2.out
  go_wp2_with fail
  rw [O4.out]
  refine (AO.out _).mono ?_
  rintro e w' ⟨rfl, rfl⟩
  rename_i Q1 K1 hK1 K2 hK2
  refine hK2 _ _ ?_
  refine wpList_plain rfl (fun K hK => ?_)
  go_simp
  refine hK _ _ ?_
  clear hK K
  (try dsimp only [Act.put]); (try simp only [List.setIfInBounds_toArray, List.set_cons_zero, List.set_cons_succ])
  refine BigFrame.wpList_want (by rfl) (fun K hK => ?_)
  go_simp
  refine hK _ _ ?_
  clear hK K
  (try dsimp only [Act.put]); (try simp only [List.setIfInBounds_toArray, List.set_cons_zero, List.set_cons_succ])
  refine BigFrame.wpList_want (by rfl) (fun K hK => ?_)
  go_simp
  refine hK _ _ ?_
  clear hK K
  (try dsimp only [Act.put]); (try simp only [List.setIfInBounds_toArray, List.set_cons_zero, List.set_cons_succ])
  refine BigFrame.wpList_want (by rfl) (fun K hK => ?_)
  go_simp
  refine hK _ _ ?_
  clear hK K
  (try dsimp only [Act.put]); (try simp only [List.setIfInBounds_toArray, List.set_cons_zero, List.set_cons_succ])
  have HX : Hid (false = x) := Lib.hid (by rw [HR.out]; simp [H1.out])
  clear HR RC
  refine Early.out_get (by kernel_rfl) ?_
  refine hK1 _ _ ?_
  refine wp_seq (wp_region_lit ?_)
  refine Early.out_get (by kernel_rfl) ?_
  refine wp_ret ?_
  exact bodyPost_ret (v := .bool false) (by kernel_rfl) (by kernel_rfl) ⟨ret_bool HX.out, A0.out⟩
end Go.Proofs.YtjolhoilcibdfaaGreat.RkC
/- The document's own rail: one way through it (2). -/
namespace Go.Proofs.YtjolhoilcibdfaaGreat.RkC
open Go.ChangeShapes Go.WideShapes Go.ChangeAt Go.RowKit
open Tab PlaceM PlanM OnS ChkM ChkA
open ChkB (laid2)
open May (ret_bool infoT infoR)
set_option linter.unusedVariables false
set_option linter.unusedSimpArgs false
set_option maxRecDepth 100000 in
set_option maxHeartbeats 8000000 in
theorem rail_2 (T : Tab) (h : Hd) (r : Rl) (w : World) (ht : IsTab w h T) (sm : Few T) (z0 : inR (or4 r) (onS T : Nat) = true) (z1 : r.dwell ≠ 0) (z2 : bits .and .i64 r.dwell r.bars ≠ 0) :
    Calls Tryz.prog 52 #[.agg (T.cells h).toArray, .agg r.cells.toArray, .int .i64 (onS T : Nat)] w fun e w' => e = .returned (.bool (railOk T r)) ∧ Below w.heap.size w w' := by
  have hsz := (cells_ok ht).size
  have IA : Hid ((Tryz.prog.info? 32).map (·.size) = some (T.cells h).length) := Lib.hid (by rw [List.size_toArray] at hsz; rw [hsz]; exact infoT)
  have AO : Hid (∀ W, Calls Tryz.prog 53 #[.int .i64 (or4 r), .int .i64 (onS T : Nat)] W fun e w' => e = .returned (.bool (inR (or4 r) (onS T : Nat))) ∧ W = w') := Lib.hid (fun W => RkA.in_any _ _ W)
  have CL : Hid (∀ s W, Below w.heap.size w W → Calls Tryz.prog 94 #[.agg (T.cells h).toArray, .int .i64 s, .int .i64 s] W fun e w' => e = .returned (.bool (clashR T s s)) ∧ Below W.heap.size W w') := Lib.hid (fun s W hb => RkB.rclash_any T h s s W (ht.below hb))
  have AB : Hid (∀ s W, Below w.heap.size w W → Calls Tryz.prog 93 #[.agg (T.cells h).toArray, .int .i64 s] W fun e w' => e = .returned (.bool (exitR T s)) ∧ Below W.heap.size W w') := Lib.hid (fun s W hb => RkB.exit_any T h s W (ht.below hb) sm)
  obtain ⟨x, hx⟩ : ∃ x, x = railOk T r := ⟨_, rfl⟩
  rw [← hx]
  have HR : Hid (x = ((inR (or4 r) (onS T : Nat) && (r.dwell != 0 && (bits .and .i64 r.dwell r.bars == 0 && exitR T r.exit))) && (!clashR T r.clear r.clear && (!clashR T r.dwell r.dwell && (!clashR T r.exit r.exit && timesOk r))))) := Lib.hid hx
  have LT0 := Lib.hid (Row.lies_new w (T.cells h).toArray 32)
  have hs1 : (w.alloc (.cells (T.cells h).toArray 32)).heap.size = w.heap.size + 1 := by simp
  have hone := Rl.one r
  have hsz2 : r.cells.toArray.size = 11 := rfl
  have RC := Lib.hid (rail_cells r)
  have O4 : Hid (bits .or .i64 (bits .or .i64 (bits .or .i64 r.bars r.clear) r.dwell) r.exit = or4 r) := Lib.hid rfl
  obtain ⟨a1, ha1⟩ : ∃ z, inR (or4 r) (onS T : Nat) = z := ⟨_, rfl⟩
  obtain ⟨c1, hc1⟩ : ∃ z, clashR T r.clear r.clear = z := ⟨_, rfl⟩
  obtain ⟨c2, hc2⟩ : ∃ z, clashR T r.dwell r.dwell = z := ⟨_, rfl⟩
  obtain ⟨c3, hc3⟩ : ∃ z, clashR T r.exit r.exit = z := ⟨_, rfl⟩
  obtain ⟨b1, hb1⟩ : ∃ z, exitR T r.exit = z := ⟨_, rfl⟩
  have CL1 := Lib.hid (CL.out r.clear)
  have CL2 := Lib.hid (CL.out r.dwell)
  have CL3 := Lib.hid (CL.out r.exit)
  have AB1 := Lib.hid (AB.out r.exit)
  rw [ha1] at AO HR
  rw [hc1] at CL1 HR
  rw [hc2] at CL2 HR
  rw [hc3] at CL3 HR
  rw [hb1] at AB1 HR
  have TO : Hid (timesOk r = ((decide (0 < r.hold) == (r.clear != 0)) && (decide (1 ≤ r.green) && (decide (1 ≤ r.stay) && ((r.most == 0 || decide (r.stay ≤ r.most)) && decide (r.delay < r.limit)))))) := Lib.hid rfl
  rw [show a1 = true from ha1.symm.trans z0] at AO HR
  clear hx ht CL AB ha1 hc1 hc2 hc3 hb1
  generalize timesOk r = tk at *
  clear z0
  generalize or4 r = o4 at *
  generalize r.cells = rc at *
  obtain ⟨bars, clear_, dwell, exit, delay, green, foot, hold, stay, most, limit⟩ := r
  dsimp only at *
  generalize T.cells h = c at *
  generalize (((onS T : Nat)) : Int) = on at *
  go_enter Tryz.func52, Tryz.ntmps52
  go_upto_region 1 with fail
  obtain ⟨u, hu, E1, E0, EB, b1'⟩ := laid2 w (.cells c.toArray 32) (.cells rc.toArray 47)
  rw [hu]
  have A0 := Lib.hid E0
  have A1 := Lib.hid (LT0.out.below (by rw [hs1]; exact EB))
  have A2 : Hid (u.heap[w.heap.size + 1]? = some (.cells rc.toArray 47 (0, 0))) := Lib.hid b1'
  clear hu EB LT0 b1' hs1 hsz hsz2 hone E0 E1
  have H1 := Lib.hid z1
  clear z1
  have H3 := Lib.hid z2
  clear z2
  have zb : (dwell != 0) = true := bne_iff_ne.2 H1.out
  obtain ⟨q0, q1, q2, q3, q4, q5, q7, q8, q9, q10⟩ := RC.out _ _ A2.out
  go_wp2_with fail
  rw [O4.out]
  refine (AO.out _).mono ?_
  rintro e w' ⟨rfl, rfl⟩
  have zc : (bits .and .i64 dwell bars == 0) = false := beq_eq_false_iff_ne.2 H3.out
  rename_i Q1 K1 hK1 K2 hK2
  refine hK2 _ _ ?_
  refine wpList_plain rfl (fun K hK => ?_)
  go_simp
  refine hK _ _ ?_
  clear hK K
  (try dsimp only [Act.put]); (try simp only [List.setIfInBounds_toArray, List.set_cons_zero, List.set_cons_succ])
  refine BigFrame.wpList_want (by rfl) (fun K hK => ?_)
  go_simp
  refine hK _ _ ?_
  clear hK K
  (try dsimp only [Act.put]); (try simp only [List.setIfInBounds_toArray, List.set_cons_zero, List.set_cons_succ])
  refine BigFrame.wpList_want (by rfl) (fun K hK => ?_)
  go_simp
  refine hK _ _ ?_
  clear hK K
  (try dsimp only [Act.put]); (try simp only [List.setIfInBounds_toArray, List.set_cons_zero, List.set_cons_succ])
  refine BigFrame.wpList_want (by rfl) (fun K hK => ?_)
  go_simp
  refine hK _ _ ?_
  clear hK K
  (try dsimp only [Act.put]); (try simp only [List.setIfInBounds_toArray, List.set_cons_zero, List.set_cons_succ])
  refine wpList_plain rfl (fun K hK => ?_)
  go_simp
  refine hK _ _ ?_
  clear hK K
  (try dsimp only [Act.put]); (try simp only [List.setIfInBounds_toArray, List.set_cons_zero, List.set_cons_succ])
  refine wpList_plain rfl (fun K hK => ?_)
  go_simp
  refine hK _ _ ?_
  clear hK K
  (try dsimp only [Act.put]); (try simp only [List.setIfInBounds_toArray, List.set_cons_zero, List.set_cons_succ])
  refine BigFrame.wpList_want (by rfl) (fun K hK => ?_)
  go_simp
  refine hK _ _ ?_
  clear hK K
  (try dsimp only [Act.put]); (try simp only [List.setIfInBounds_toArray, List.set_cons_zero, List.set_cons_succ])
  refine BigFrame.wpList_want (by rfl) (fun K hK => ?_)
  go_simp
  refine hK _ _ ?_
  clear hK K
  (try dsimp only [Act.put]); (try simp only [List.setIfInBounds_toArray, List.set_cons_zero, List.set_cons_succ])
  refine BigFrame.wpList_want (by rfl) (fun K hK => ?_)
  go_simp
  refine hK _ _ ?_
  clear hK K
  (try dsimp only [Act.put]); (try simp only [List.setIfInBounds_toArray, List.set_cons_zero, List.set_cons_succ])
  refine BigFrame.wpList_want (by rfl) (fun K hK => ?_)
  go_simp
  refine hK _ _ ?_
  clear hK K
  (try dsimp only [Act.put]); (try simp only [List.setIfInBounds_toArray, List.set_cons_zero, List.set_cons_succ])
  refine BigFrame.wpList_want (by rfl) (fun K hK => ?_)
  go_simp
  refine hK _ _ ?_
  clear hK K
  (try dsimp only [Act.put]); (try simp only [List.setIfInBounds_toArray, List.set_cons_zero, List.set_cons_succ])
  refine BigFrame.wpList_want (by rfl) (fun K hK => ?_)
  go_simp
  refine hK _ _ ?_
  clear hK K
  (try dsimp only [Act.put]); (try simp only [List.setIfInBounds_toArray, List.set_cons_zero, List.set_cons_succ])
  have HX : Hid (false = x) := Lib.hid (by rw [HR.out]; simp [H3.out])
  clear HR RC
  refine Early.out_get (by kernel_rfl) ?_
  refine hK1 _ _ ?_
  refine wp_seq (wp_region_lit ?_)
  refine Early.out_get (by kernel_rfl) ?_
  refine wp_ret ?_
  exact bodyPost_ret (v := .bool false) (by kernel_rfl) (by kernel_rfl) ⟨ret_bool HX.out, A0.out⟩
end Go.Proofs.YtjolhoilcibdfaaGreat.RkC
/- The document's own rail: one way through it (3). -/
namespace Go.Proofs.YtjolhoilcibdfaaGreat.RkC
open Go.ChangeShapes Go.WideShapes Go.ChangeAt Go.RowKit
open Tab PlaceM PlanM OnS ChkM ChkA
open ChkB (laid2)
open May (ret_bool infoT infoR)
set_option linter.unusedVariables false
set_option linter.unusedSimpArgs false
set_option maxRecDepth 100000 in
set_option maxHeartbeats 8000000 in
theorem rail_3 (T : Tab) (h : Hd) (r : Rl) (w : World) (ht : IsTab w h T) (sm : Few T) (z0 : inR (or4 r) (onS T : Nat) = true) (z1 : r.dwell ≠ 0) (z2 : bits .and .i64 r.dwell r.bars = 0) (z3 : exitR T r.exit = false) :
    Calls Tryz.prog 52 #[.agg (T.cells h).toArray, .agg r.cells.toArray, .int .i64 (onS T : Nat)] w fun e w' => e = .returned (.bool (railOk T r)) ∧ Below w.heap.size w w' := by
  have hsz := (cells_ok ht).size
  have IA : Hid ((Tryz.prog.info? 32).map (·.size) = some (T.cells h).length) := Lib.hid (by rw [List.size_toArray] at hsz; rw [hsz]; exact infoT)
  have AO : Hid (∀ W, Calls Tryz.prog 53 #[.int .i64 (or4 r), .int .i64 (onS T : Nat)] W fun e w' => e = .returned (.bool (inR (or4 r) (onS T : Nat))) ∧ W = w') := Lib.hid (fun W => RkA.in_any _ _ W)
  have CL : Hid (∀ s W, Below w.heap.size w W → Calls Tryz.prog 94 #[.agg (T.cells h).toArray, .int .i64 s, .int .i64 s] W fun e w' => e = .returned (.bool (clashR T s s)) ∧ Below W.heap.size W w') := Lib.hid (fun s W hb => RkB.rclash_any T h s s W (ht.below hb))
  have AB : Hid (∀ s W, Below w.heap.size w W → Calls Tryz.prog 93 #[.agg (T.cells h).toArray, .int .i64 s] W fun e w' => e = .returned (.bool (exitR T s)) ∧ Below W.heap.size W w') := Lib.hid (fun s W hb => RkB.exit_any T h s W (ht.below hb) sm)
  obtain ⟨x, hx⟩ : ∃ x, x = railOk T r := ⟨_, rfl⟩
  rw [← hx]
  have HR : Hid (x = ((inR (or4 r) (onS T : Nat) && (r.dwell != 0 && (bits .and .i64 r.dwell r.bars == 0 && exitR T r.exit))) && (!clashR T r.clear r.clear && (!clashR T r.dwell r.dwell && (!clashR T r.exit r.exit && timesOk r))))) := Lib.hid hx
  have LT0 := Lib.hid (Row.lies_new w (T.cells h).toArray 32)
  have hs1 : (w.alloc (.cells (T.cells h).toArray 32)).heap.size = w.heap.size + 1 := by simp
  have hone := Rl.one r
  have hsz2 : r.cells.toArray.size = 11 := rfl
  have RC := Lib.hid (rail_cells r)
  have O4 : Hid (bits .or .i64 (bits .or .i64 (bits .or .i64 r.bars r.clear) r.dwell) r.exit = or4 r) := Lib.hid rfl
  obtain ⟨a1, ha1⟩ : ∃ z, inR (or4 r) (onS T : Nat) = z := ⟨_, rfl⟩
  obtain ⟨c1, hc1⟩ : ∃ z, clashR T r.clear r.clear = z := ⟨_, rfl⟩
  obtain ⟨c2, hc2⟩ : ∃ z, clashR T r.dwell r.dwell = z := ⟨_, rfl⟩
  obtain ⟨c3, hc3⟩ : ∃ z, clashR T r.exit r.exit = z := ⟨_, rfl⟩
  obtain ⟨b1, hb1⟩ : ∃ z, exitR T r.exit = z := ⟨_, rfl⟩
  have CL1 := Lib.hid (CL.out r.clear)
  have CL2 := Lib.hid (CL.out r.dwell)
  have CL3 := Lib.hid (CL.out r.exit)
  have AB1 := Lib.hid (AB.out r.exit)
  rw [ha1] at AO HR
  rw [hc1] at CL1 HR
  rw [hc2] at CL2 HR
  rw [hc3] at CL3 HR
  rw [hb1] at AB1 HR
  have TO : Hid (timesOk r = ((decide (0 < r.hold) == (r.clear != 0)) && (decide (1 ≤ r.green) && (decide (1 ≤ r.stay) && ((r.most == 0 || decide (r.stay ≤ r.most)) && decide (r.delay < r.limit)))))) := Lib.hid rfl
  rw [show a1 = true from ha1.symm.trans z0] at AO HR; rw [show b1 = false from hb1.symm.trans z3] at AB1 HR
  clear hx ht CL AB ha1 hc1 hc2 hc3 hb1
  generalize timesOk r = tk at *
  clear z0 z3
  generalize or4 r = o4 at *
  generalize r.cells = rc at *
  obtain ⟨bars, clear_, dwell, exit, delay, green, foot, hold, stay, most, limit⟩ := r
  dsimp only at *
  generalize T.cells h = c at *
  generalize (((onS T : Nat)) : Int) = on at *
  go_enter Tryz.func52, Tryz.ntmps52
  go_upto_region 1 with fail
  obtain ⟨u, hu, E1, E0, EB, b1'⟩ := laid2 w (.cells c.toArray 32) (.cells rc.toArray 47)
  rw [hu]
  have A0 := Lib.hid E0
  have A1 := Lib.hid (LT0.out.below (by rw [hs1]; exact EB))
  have A2 : Hid (u.heap[w.heap.size + 1]? = some (.cells rc.toArray 47 (0, 0))) := Lib.hid b1'
  clear hu EB LT0 b1' hs1 hsz hsz2 hone E0 E1
  have H1 := Lib.hid z1
  clear z1
  have H3 := Lib.hid z2
  clear z2
  have zb : (dwell != 0) = true := bne_iff_ne.2 H1.out
  obtain ⟨q0, q1, q2, q3, q4, q5, q7, q8, q9, q10⟩ := RC.out _ _ A2.out
  go_wp2_with fail
  rw [O4.out]
  refine (AO.out _).mono ?_
  rintro e w' ⟨rfl, rfl⟩
  have zc : (bits .and .i64 dwell bars == 0) = true := beq_iff_eq.2 H3.out
  go_wp2_with (refine Row.wpList_load_g 32 _ rfl (by first | rfl | go_simp) ⟨w.heap.size, 0, none⟩ rfl c _ A1.out Tryz.underlying32 rfl IA.out ?_)
  (try go_wp2_with fail)
  refine (AB1.out _ A0.out).mono ?_
  rintro e u1 ⟨rfl, hb⟩
  replace A0 : Hid (Below w.heap.size w u1) := Lib.hid (A0.out.trans (hb.mono A0.out.size))
  replace A2 : Hid (u1.heap[w.heap.size + 1]? = some (.cells rc.toArray 47 (0, 0))) := Lib.hid ((hb.block _ (Array.getElem?_eq_some_iff.1 A2.out).1).trans A2.out)
  replace A1 := Lib.hid (A1.out.below hb)
  clear q0 q1 q2 q3 q4 q5 q7 q8 q9 q10
  clear hb
  obtain ⟨q0, q1, q2, q3, q4, q5, q7, q8, q9, q10⟩ := RC.out _ _ A2.out
  rename_i Q1 K1 hK1 K2 hK2
  refine hK2 _ _ ?_
  have HX : Hid (false = x) := Lib.hid (by rw [HR.out]; simp)
  clear HR RC
  refine Early.out_get (by kernel_rfl) ?_
  refine hK1 _ _ ?_
  refine wp_seq (wp_region_lit ?_)
  refine Early.out_get (by kernel_rfl) ?_
  refine wp_ret ?_
  exact bodyPost_ret (v := .bool false) (by kernel_rfl) (by kernel_rfl) ⟨ret_bool HX.out, A0.out⟩
end Go.Proofs.YtjolhoilcibdfaaGreat.RkC
/- The document's own rail: one way through it (4). -/
namespace Go.Proofs.YtjolhoilcibdfaaGreat.RkC
open Go.ChangeShapes Go.WideShapes Go.ChangeAt Go.RowKit
open Tab PlaceM PlanM OnS ChkM ChkA
open ChkB (laid2)
open May (ret_bool infoT infoR)
set_option linter.unusedVariables false
set_option linter.unusedSimpArgs false
set_option maxRecDepth 100000 in
set_option maxHeartbeats 8000000 in
theorem rail_4 (T : Tab) (h : Hd) (r : Rl) (w : World) (ht : IsTab w h T) (sm : Few T) (z0 : inR (or4 r) (onS T : Nat) = true) (z1 : r.dwell ≠ 0) (z2 : bits .and .i64 r.dwell r.bars = 0) (z3 : exitR T r.exit = true) (z4 : clashR T r.clear r.clear = true) :
    Calls Tryz.prog 52 #[.agg (T.cells h).toArray, .agg r.cells.toArray, .int .i64 (onS T : Nat)] w fun e w' => e = .returned (.bool (railOk T r)) ∧ Below w.heap.size w w' := by
  have hsz := (cells_ok ht).size
  have IA : Hid ((Tryz.prog.info? 32).map (·.size) = some (T.cells h).length) := Lib.hid (by rw [List.size_toArray] at hsz; rw [hsz]; exact infoT)
  have AO : Hid (∀ W, Calls Tryz.prog 53 #[.int .i64 (or4 r), .int .i64 (onS T : Nat)] W fun e w' => e = .returned (.bool (inR (or4 r) (onS T : Nat))) ∧ W = w') := Lib.hid (fun W => RkA.in_any _ _ W)
  have CL : Hid (∀ s W, Below w.heap.size w W → Calls Tryz.prog 94 #[.agg (T.cells h).toArray, .int .i64 s, .int .i64 s] W fun e w' => e = .returned (.bool (clashR T s s)) ∧ Below W.heap.size W w') := Lib.hid (fun s W hb => RkB.rclash_any T h s s W (ht.below hb))
  have AB : Hid (∀ s W, Below w.heap.size w W → Calls Tryz.prog 93 #[.agg (T.cells h).toArray, .int .i64 s] W fun e w' => e = .returned (.bool (exitR T s)) ∧ Below W.heap.size W w') := Lib.hid (fun s W hb => RkB.exit_any T h s W (ht.below hb) sm)
  obtain ⟨x, hx⟩ : ∃ x, x = railOk T r := ⟨_, rfl⟩
  rw [← hx]
  have HR : Hid (x = ((inR (or4 r) (onS T : Nat) && (r.dwell != 0 && (bits .and .i64 r.dwell r.bars == 0 && exitR T r.exit))) && (!clashR T r.clear r.clear && (!clashR T r.dwell r.dwell && (!clashR T r.exit r.exit && timesOk r))))) := Lib.hid hx
  have LT0 := Lib.hid (Row.lies_new w (T.cells h).toArray 32)
  have hs1 : (w.alloc (.cells (T.cells h).toArray 32)).heap.size = w.heap.size + 1 := by simp
  have hone := Rl.one r
  have hsz2 : r.cells.toArray.size = 11 := rfl
  have RC := Lib.hid (rail_cells r)
  have O4 : Hid (bits .or .i64 (bits .or .i64 (bits .or .i64 r.bars r.clear) r.dwell) r.exit = or4 r) := Lib.hid rfl
  obtain ⟨a1, ha1⟩ : ∃ z, inR (or4 r) (onS T : Nat) = z := ⟨_, rfl⟩
  obtain ⟨c1, hc1⟩ : ∃ z, clashR T r.clear r.clear = z := ⟨_, rfl⟩
  obtain ⟨c2, hc2⟩ : ∃ z, clashR T r.dwell r.dwell = z := ⟨_, rfl⟩
  obtain ⟨c3, hc3⟩ : ∃ z, clashR T r.exit r.exit = z := ⟨_, rfl⟩
  obtain ⟨b1, hb1⟩ : ∃ z, exitR T r.exit = z := ⟨_, rfl⟩
  have CL1 := Lib.hid (CL.out r.clear)
  have CL2 := Lib.hid (CL.out r.dwell)
  have CL3 := Lib.hid (CL.out r.exit)
  have AB1 := Lib.hid (AB.out r.exit)
  rw [ha1] at AO HR
  rw [hc1] at CL1 HR
  rw [hc2] at CL2 HR
  rw [hc3] at CL3 HR
  rw [hb1] at AB1 HR
  have TO : Hid (timesOk r = ((decide (0 < r.hold) == (r.clear != 0)) && (decide (1 ≤ r.green) && (decide (1 ≤ r.stay) && ((r.most == 0 || decide (r.stay ≤ r.most)) && decide (r.delay < r.limit)))))) := Lib.hid rfl
  rw [show a1 = true from ha1.symm.trans z0] at AO HR; rw [show b1 = true from hb1.symm.trans z3] at AB1 HR; rw [show c1 = true from hc1.symm.trans z4] at CL1 HR
  clear hx ht CL AB ha1 hc1 hc2 hc3 hb1
  generalize timesOk r = tk at *
  clear z0 z3 z4
  generalize or4 r = o4 at *
  generalize r.cells = rc at *
  obtain ⟨bars, clear_, dwell, exit, delay, green, foot, hold, stay, most, limit⟩ := r
  dsimp only at *
  generalize T.cells h = c at *
  generalize (((onS T : Nat)) : Int) = on at *
  go_enter Tryz.func52, Tryz.ntmps52
  go_upto_region 1 with fail
  obtain ⟨u, hu, E1, E0, EB, b1'⟩ := laid2 w (.cells c.toArray 32) (.cells rc.toArray 47)
  rw [hu]
  have A0 := Lib.hid E0
  have A1 := Lib.hid (LT0.out.below (by rw [hs1]; exact EB))
  have A2 : Hid (u.heap[w.heap.size + 1]? = some (.cells rc.toArray 47 (0, 0))) := Lib.hid b1'
  clear hu EB LT0 b1' hs1 hsz hsz2 hone E0 E1
  have H1 := Lib.hid z1
  clear z1
  have H3 := Lib.hid z2
  clear z2
  have zb : (dwell != 0) = true := bne_iff_ne.2 H1.out
  obtain ⟨q0, q1, q2, q3, q4, q5, q7, q8, q9, q10⟩ := RC.out _ _ A2.out
  go_wp2_with fail
  rw [O4.out]
  refine (AO.out _).mono ?_
  rintro e w' ⟨rfl, rfl⟩
  have zc : (bits .and .i64 dwell bars == 0) = true := beq_iff_eq.2 H3.out
  go_wp2_with (refine Row.wpList_load_g 32 _ rfl (by first | rfl | go_simp) ⟨w.heap.size, 0, none⟩ rfl c _ A1.out Tryz.underlying32 rfl IA.out ?_)
  (try go_wp2_with fail)
  refine (AB1.out _ A0.out).mono ?_
  rintro e u1 ⟨rfl, hb⟩
  replace A0 : Hid (Below w.heap.size w u1) := Lib.hid (A0.out.trans (hb.mono A0.out.size))
  replace A2 : Hid (u1.heap[w.heap.size + 1]? = some (.cells rc.toArray 47 (0, 0))) := Lib.hid ((hb.block _ (Array.getElem?_eq_some_iff.1 A2.out).1).trans A2.out)
  replace A1 := Lib.hid (A1.out.below hb)
  clear q0 q1 q2 q3 q4 q5 q7 q8 q9 q10
  clear hb
  obtain ⟨q0, q1, q2, q3, q4, q5, q7, q8, q9, q10⟩ := RC.out _ _ A2.out
  rename_i Q1 K1 hK1 K2 hK2
  refine hK2 _ _ ?_
  refine wpList_plain rfl (fun K hK => ?_)
  go_simp
  refine hK _ _ ?_
  clear hK K
  (try dsimp only [Act.put]); (try simp only [List.setIfInBounds_toArray, List.set_cons_zero, List.set_cons_succ])
  refine wpList_plain rfl (fun K hK => ?_)
  go_simp
  refine hK _ _ ?_
  clear hK K
  (try dsimp only [Act.put]); (try simp only [List.setIfInBounds_toArray, List.set_cons_zero, List.set_cons_succ])
  refine hK1 _ _ ?_
  clear hK2 K2 hK1 K1
  refine wp_seq_k (fun K1 hK1 => ?_)
  refine wp_region_lit ?_
  refine wpList_plain rfl (fun K hK => ?_)
  go_simp
  refine hK _ _ ?_
  clear hK K
  (try dsimp only [Act.put]); (try simp only [List.setIfInBounds_toArray, List.set_cons_zero, List.set_cons_succ])
  refine wpList_plain rfl (fun K hK => ?_)
  go_simp
  refine hK _ _ ?_
  clear hK K
  (try dsimp only [Act.put]); (try simp only [List.setIfInBounds_toArray, List.set_cons_zero, List.set_cons_succ])
  refine Row.wpList_load_g 32 _ rfl (by rfl) ⟨w.heap.size, 0, none⟩ rfl c _ A1.out Tryz.underlying32 rfl IA.out ?_
  (try dsimp only [Act.put]); (try simp only [List.setIfInBounds_toArray, List.set_cons_zero, List.set_cons_succ])
  refine BigFrame.wpList_want (by rfl) (fun K hK => ?_)
  go_simp
  refine hK _ _ ?_
  clear hK K
  (try dsimp only [Act.put]); (try simp only [List.setIfInBounds_toArray, List.set_cons_zero, List.set_cons_succ])
  refine BigFrame.wpList_want (by rfl) (fun K hK => ?_)
  go_simp
  refine hK _ _ ?_
  clear hK K
  (try dsimp only [Act.put]); (try simp only [List.setIfInBounds_toArray, List.set_cons_zero, List.set_cons_succ])
  refine BigFrame.wpList_want (by rfl) (fun K hK => ?_)
  go_simp
  refine hK _ _ ?_
  clear hK K
  (try dsimp only [Act.put]); (try simp only [List.setIfInBounds_toArray, List.set_cons_zero, List.set_cons_succ])
  refine BigFrame.wpList_want (by rfl) (fun K hK => ?_)
  go_simp
  refine hK _ _ ?_
  clear hK K
  (try dsimp only [Act.put]); (try simp only [List.setIfInBounds_toArray, List.set_cons_zero, List.set_cons_succ])
  refine BigFrame.wpList_want (by rfl) (fun K2 hK2 => ?_)
  go_simp
  refine (CL1.out _ A0.out).mono ?_
  rintro e u2 ⟨rfl, hb⟩
  replace A0 : Hid (Below w.heap.size w u2) := Lib.hid (A0.out.trans (hb.mono A0.out.size))
  replace A2 : Hid (u2.heap[w.heap.size + 1]? = some (.cells rc.toArray 47 (0, 0))) := Lib.hid ((hb.block _ (Array.getElem?_eq_some_iff.1 A2.out).1).trans A2.out)
  replace A1 := Lib.hid (A1.out.below hb)
  clear q0 q1 q2 q3 q4 q5 q7 q8 q9 q10
  clear hb
  obtain ⟨q0, q1, q2, q3, q4, q5, q7, q8, q9, q10⟩ := RC.out _ _ A2.out
  refine hK2 _ _ ?_
  clear hK2 K2
  refine BigFrame.wpList_want (by rfl) (fun K hK => ?_)
  go_simp
  refine hK _ _ ?_
  clear hK K
  (try dsimp only [Act.put]); (try simp only [List.setIfInBounds_toArray, List.set_cons_zero, List.set_cons_succ])
  have HX : Hid (false = x) := Lib.hid (by rw [HR.out]; simp)
  clear HR RC
  refine Early.out_get (by kernel_rfl) ?_
  refine hK1 _ _ ?_
  refine wp_ret ?_
  exact bodyPost_ret (v := .bool false) (by kernel_rfl) (by kernel_rfl) ⟨ret_bool HX.out, A0.out⟩
end Go.Proofs.YtjolhoilcibdfaaGreat.RkC
/- The document's own rail: one way through it (5). -/
namespace Go.Proofs.YtjolhoilcibdfaaGreat.RkC
open Go.ChangeShapes Go.WideShapes Go.ChangeAt Go.RowKit
open Tab PlaceM PlanM OnS ChkM ChkA
open ChkB (laid2)
open May (ret_bool infoT infoR)
set_option linter.unusedVariables false
set_option linter.unusedSimpArgs false
set_option maxRecDepth 100000 in
set_option maxHeartbeats 8000000 in
theorem rail_5 (T : Tab) (h : Hd) (r : Rl) (w : World) (ht : IsTab w h T) (sm : Few T) (z0 : inR (or4 r) (onS T : Nat) = true) (z1 : r.dwell ≠ 0) (z2 : bits .and .i64 r.dwell r.bars = 0) (z3 : exitR T r.exit = true) (z4 : clashR T r.clear r.clear = false) (z5 : clashR T r.dwell r.dwell = true) :
    Calls Tryz.prog 52 #[.agg (T.cells h).toArray, .agg r.cells.toArray, .int .i64 (onS T : Nat)] w fun e w' => e = .returned (.bool (railOk T r)) ∧ Below w.heap.size w w' := by
  have hsz := (cells_ok ht).size
  have IA : Hid ((Tryz.prog.info? 32).map (·.size) = some (T.cells h).length) := Lib.hid (by rw [List.size_toArray] at hsz; rw [hsz]; exact infoT)
  have AO : Hid (∀ W, Calls Tryz.prog 53 #[.int .i64 (or4 r), .int .i64 (onS T : Nat)] W fun e w' => e = .returned (.bool (inR (or4 r) (onS T : Nat))) ∧ W = w') := Lib.hid (fun W => RkA.in_any _ _ W)
  have CL : Hid (∀ s W, Below w.heap.size w W → Calls Tryz.prog 94 #[.agg (T.cells h).toArray, .int .i64 s, .int .i64 s] W fun e w' => e = .returned (.bool (clashR T s s)) ∧ Below W.heap.size W w') := Lib.hid (fun s W hb => RkB.rclash_any T h s s W (ht.below hb))
  have AB : Hid (∀ s W, Below w.heap.size w W → Calls Tryz.prog 93 #[.agg (T.cells h).toArray, .int .i64 s] W fun e w' => e = .returned (.bool (exitR T s)) ∧ Below W.heap.size W w') := Lib.hid (fun s W hb => RkB.exit_any T h s W (ht.below hb) sm)
  obtain ⟨x, hx⟩ : ∃ x, x = railOk T r := ⟨_, rfl⟩
  rw [← hx]
  have HR : Hid (x = ((inR (or4 r) (onS T : Nat) && (r.dwell != 0 && (bits .and .i64 r.dwell r.bars == 0 && exitR T r.exit))) && (!clashR T r.clear r.clear && (!clashR T r.dwell r.dwell && (!clashR T r.exit r.exit && timesOk r))))) := Lib.hid hx
  have LT0 := Lib.hid (Row.lies_new w (T.cells h).toArray 32)
  have hs1 : (w.alloc (.cells (T.cells h).toArray 32)).heap.size = w.heap.size + 1 := by simp
  have hone := Rl.one r
  have hsz2 : r.cells.toArray.size = 11 := rfl
  have RC := Lib.hid (rail_cells r)
  have O4 : Hid (bits .or .i64 (bits .or .i64 (bits .or .i64 r.bars r.clear) r.dwell) r.exit = or4 r) := Lib.hid rfl
  obtain ⟨a1, ha1⟩ : ∃ z, inR (or4 r) (onS T : Nat) = z := ⟨_, rfl⟩
  obtain ⟨c1, hc1⟩ : ∃ z, clashR T r.clear r.clear = z := ⟨_, rfl⟩
  obtain ⟨c2, hc2⟩ : ∃ z, clashR T r.dwell r.dwell = z := ⟨_, rfl⟩
  obtain ⟨c3, hc3⟩ : ∃ z, clashR T r.exit r.exit = z := ⟨_, rfl⟩
  obtain ⟨b1, hb1⟩ : ∃ z, exitR T r.exit = z := ⟨_, rfl⟩
  have CL1 := Lib.hid (CL.out r.clear)
  have CL2 := Lib.hid (CL.out r.dwell)
  have CL3 := Lib.hid (CL.out r.exit)
  have AB1 := Lib.hid (AB.out r.exit)
  rw [ha1] at AO HR
  rw [hc1] at CL1 HR
  rw [hc2] at CL2 HR
  rw [hc3] at CL3 HR
  rw [hb1] at AB1 HR
  have TO : Hid (timesOk r = ((decide (0 < r.hold) == (r.clear != 0)) && (decide (1 ≤ r.green) && (decide (1 ≤ r.stay) && ((r.most == 0 || decide (r.stay ≤ r.most)) && decide (r.delay < r.limit)))))) := Lib.hid rfl
  rw [show a1 = true from ha1.symm.trans z0] at AO HR; rw [show b1 = true from hb1.symm.trans z3] at AB1 HR; rw [show c1 = false from hc1.symm.trans z4] at CL1 HR; rw [show c2 = true from hc2.symm.trans z5] at CL2 HR
  clear hx ht CL AB ha1 hc1 hc2 hc3 hb1
  generalize timesOk r = tk at *
  clear z0 z3 z4 z5
  generalize or4 r = o4 at *
  generalize r.cells = rc at *
  obtain ⟨bars, clear_, dwell, exit, delay, green, foot, hold, stay, most, limit⟩ := r
  dsimp only at *
  generalize T.cells h = c at *
  generalize (((onS T : Nat)) : Int) = on at *
  go_enter Tryz.func52, Tryz.ntmps52
  go_upto_region 1 with fail
  obtain ⟨u, hu, E1, E0, EB, b1'⟩ := laid2 w (.cells c.toArray 32) (.cells rc.toArray 47)
  rw [hu]
  have A0 := Lib.hid E0
  have A1 := Lib.hid (LT0.out.below (by rw [hs1]; exact EB))
  have A2 : Hid (u.heap[w.heap.size + 1]? = some (.cells rc.toArray 47 (0, 0))) := Lib.hid b1'
  clear hu EB LT0 b1' hs1 hsz hsz2 hone E0 E1
  have H1 := Lib.hid z1
  clear z1
  have H3 := Lib.hid z2
  clear z2
  have zb : (dwell != 0) = true := bne_iff_ne.2 H1.out
  obtain ⟨q0, q1, q2, q3, q4, q5, q7, q8, q9, q10⟩ := RC.out _ _ A2.out
  go_wp2_with fail
  rw [O4.out]
  refine (AO.out _).mono ?_
  rintro e w' ⟨rfl, rfl⟩
  have zc : (bits .and .i64 dwell bars == 0) = true := beq_iff_eq.2 H3.out
  go_wp2_with (refine Row.wpList_load_g 32 _ rfl (by first | rfl | go_simp) ⟨w.heap.size, 0, none⟩ rfl c _ A1.out Tryz.underlying32 rfl IA.out ?_)
  (try go_wp2_with fail)
  refine (AB1.out _ A0.out).mono ?_
  rintro e u1 ⟨rfl, hb⟩
  replace A0 : Hid (Below w.heap.size w u1) := Lib.hid (A0.out.trans (hb.mono A0.out.size))
  replace A2 : Hid (u1.heap[w.heap.size + 1]? = some (.cells rc.toArray 47 (0, 0))) := Lib.hid ((hb.block _ (Array.getElem?_eq_some_iff.1 A2.out).1).trans A2.out)
  replace A1 := Lib.hid (A1.out.below hb)
  clear q0 q1 q2 q3 q4 q5 q7 q8 q9 q10
  clear hb
  obtain ⟨q0, q1, q2, q3, q4, q5, q7, q8, q9, q10⟩ := RC.out _ _ A2.out
  rename_i Q1 K1 hK1 K2 hK2
  refine hK2 _ _ ?_
  refine wpList_plain rfl (fun K hK => ?_)
  go_simp
  refine hK _ _ ?_
  clear hK K
  (try dsimp only [Act.put]); (try simp only [List.setIfInBounds_toArray, List.set_cons_zero, List.set_cons_succ])
  refine wpList_plain rfl (fun K hK => ?_)
  go_simp
  refine hK _ _ ?_
  clear hK K
  (try dsimp only [Act.put]); (try simp only [List.setIfInBounds_toArray, List.set_cons_zero, List.set_cons_succ])
  refine hK1 _ _ ?_
  clear hK2 K2 hK1 K1
  refine wp_seq_k (fun K1 hK1 => ?_)
  refine wp_region_lit ?_
  refine wpList_plain rfl (fun K hK => ?_)
  go_simp
  refine hK _ _ ?_
  clear hK K
  (try dsimp only [Act.put]); (try simp only [List.setIfInBounds_toArray, List.set_cons_zero, List.set_cons_succ])
  refine wpList_plain rfl (fun K hK => ?_)
  go_simp
  refine hK _ _ ?_
  clear hK K
  (try dsimp only [Act.put]); (try simp only [List.setIfInBounds_toArray, List.set_cons_zero, List.set_cons_succ])
  refine Row.wpList_load_g 32 _ rfl (by rfl) ⟨w.heap.size, 0, none⟩ rfl c _ A1.out Tryz.underlying32 rfl IA.out ?_
  (try dsimp only [Act.put]); (try simp only [List.setIfInBounds_toArray, List.set_cons_zero, List.set_cons_succ])
  refine BigFrame.wpList_want (by rfl) (fun K hK => ?_)
  go_simp
  refine hK _ _ ?_
  clear hK K
  (try dsimp only [Act.put]); (try simp only [List.setIfInBounds_toArray, List.set_cons_zero, List.set_cons_succ])
  refine BigFrame.wpList_want (by rfl) (fun K hK => ?_)
  go_simp
  refine hK _ _ ?_
  clear hK K
  (try dsimp only [Act.put]); (try simp only [List.setIfInBounds_toArray, List.set_cons_zero, List.set_cons_succ])
  refine BigFrame.wpList_want (by rfl) (fun K hK => ?_)
  go_simp
  refine hK _ _ ?_
  clear hK K
  (try dsimp only [Act.put]); (try simp only [List.setIfInBounds_toArray, List.set_cons_zero, List.set_cons_succ])
  refine BigFrame.wpList_want (by rfl) (fun K hK => ?_)
  go_simp
  refine hK _ _ ?_
  clear hK K
  (try dsimp only [Act.put]); (try simp only [List.setIfInBounds_toArray, List.set_cons_zero, List.set_cons_succ])
  refine BigFrame.wpList_want (by rfl) (fun K2 hK2 => ?_)
  go_simp
  refine (CL1.out _ A0.out).mono ?_
  rintro e u2 ⟨rfl, hb⟩
  replace A0 : Hid (Below w.heap.size w u2) := Lib.hid (A0.out.trans (hb.mono A0.out.size))
  replace A2 : Hid (u2.heap[w.heap.size + 1]? = some (.cells rc.toArray 47 (0, 0))) := Lib.hid ((hb.block _ (Array.getElem?_eq_some_iff.1 A2.out).1).trans A2.out)
  replace A1 := Lib.hid (A1.out.below hb)
  clear q0 q1 q2 q3 q4 q5 q7 q8 q9 q10
  clear hb
  obtain ⟨q0, q1, q2, q3, q4, q5, q7, q8, q9, q10⟩ := RC.out _ _ A2.out
  refine hK2 _ _ ?_
  clear hK2 K2
  refine BigFrame.wpList_want (by rfl) (fun K hK => ?_)
  go_simp
  refine hK _ _ ?_
  clear hK K
  (try dsimp only [Act.put]); (try simp only [List.setIfInBounds_toArray, List.set_cons_zero, List.set_cons_succ])
  refine wpList_plain rfl (fun K hK => ?_)
  go_simp
  refine hK _ _ ?_
  clear hK K
  (try dsimp only [Act.put]); (try simp only [List.setIfInBounds_toArray, List.set_cons_zero, List.set_cons_succ])
  refine wpList_plain rfl (fun K hK => ?_)
  go_simp
  refine hK _ _ ?_
  clear hK K
  (try dsimp only [Act.put]); (try simp only [List.setIfInBounds_toArray, List.set_cons_zero, List.set_cons_succ])
  refine Row.wpList_load_g 32 _ rfl (by rfl) ⟨w.heap.size, 0, none⟩ rfl c _ A1.out Tryz.underlying32 rfl IA.out ?_
  (try dsimp only [Act.put]); (try simp only [List.setIfInBounds_toArray, List.set_cons_zero, List.set_cons_succ])
  refine BigFrame.wpList_want (by rfl) (fun K hK => ?_)
  go_simp
  refine hK _ _ ?_
  clear hK K
  (try dsimp only [Act.put]); (try simp only [List.setIfInBounds_toArray, List.set_cons_zero, List.set_cons_succ])
  refine BigFrame.wpList_want (by rfl) (fun K hK => ?_)
  go_simp
  refine hK _ _ ?_
  clear hK K
  (try dsimp only [Act.put]); (try simp only [List.setIfInBounds_toArray, List.set_cons_zero, List.set_cons_succ])
  refine BigFrame.wpList_want (by rfl) (fun K hK => ?_)
  go_simp
  refine hK _ _ ?_
  clear hK K
  (try dsimp only [Act.put]); (try simp only [List.setIfInBounds_toArray, List.set_cons_zero, List.set_cons_succ])
  refine BigFrame.wpList_want (by rfl) (fun K hK => ?_)
  go_simp
  refine hK _ _ ?_
  clear hK K
  (try dsimp only [Act.put]); (try simp only [List.setIfInBounds_toArray, List.set_cons_zero, List.set_cons_succ])
  refine BigFrame.wpList_want (by rfl) (fun K2 hK2 => ?_)
  go_simp
  refine (CL2.out _ A0.out).mono ?_
  rintro e u3 ⟨rfl, hb⟩
  replace A0 : Hid (Below w.heap.size w u3) := Lib.hid (A0.out.trans (hb.mono A0.out.size))
  replace A2 : Hid (u3.heap[w.heap.size + 1]? = some (.cells rc.toArray 47 (0, 0))) := Lib.hid ((hb.block _ (Array.getElem?_eq_some_iff.1 A2.out).1).trans A2.out)
  replace A1 := Lib.hid (A1.out.below hb)
  clear q0 q1 q2 q3 q4 q5 q7 q8 q9 q10
  clear hb
  obtain ⟨q0, q1, q2, q3, q4, q5, q7, q8, q9, q10⟩ := RC.out _ _ A2.out
  refine hK2 _ _ ?_
  clear hK2 K2
  refine BigFrame.wpList_want (by rfl) (fun K hK => ?_)
  go_simp
  refine hK _ _ ?_
  clear hK K
  (try dsimp only [Act.put]); (try simp only [List.setIfInBounds_toArray, List.set_cons_zero, List.set_cons_succ])
  have HX : Hid (false = x) := Lib.hid (by rw [HR.out]; simp)
  clear HR RC
  refine Early.out_get (by kernel_rfl) ?_
  refine hK1 _ _ ?_
  refine wp_ret ?_
  exact bodyPost_ret (v := .bool false) (by kernel_rfl) (by kernel_rfl) ⟨ret_bool HX.out, A0.out⟩
end Go.Proofs.YtjolhoilcibdfaaGreat.RkC
/- The document's own rail: one way through it (6). -/
namespace Go.Proofs.YtjolhoilcibdfaaGreat.RkC
open Go.ChangeShapes Go.WideShapes Go.ChangeAt Go.RowKit
open Tab PlaceM PlanM OnS ChkM ChkA
open ChkB (laid2)
open May (ret_bool infoT infoR)
set_option linter.unusedVariables false
set_option linter.unusedSimpArgs false
set_option maxRecDepth 100000 in
set_option maxHeartbeats 8000000 in
theorem rail_6 (T : Tab) (h : Hd) (r : Rl) (w : World) (ht : IsTab w h T) (sm : Few T) (z0 : inR (or4 r) (onS T : Nat) = true) (z1 : r.dwell ≠ 0) (z2 : bits .and .i64 r.dwell r.bars = 0) (z3 : exitR T r.exit = true) (z4 : clashR T r.clear r.clear = false) (z5 : clashR T r.dwell r.dwell = false) (z6 : clashR T r.exit r.exit = true) :
    Calls Tryz.prog 52 #[.agg (T.cells h).toArray, .agg r.cells.toArray, .int .i64 (onS T : Nat)] w fun e w' => e = .returned (.bool (railOk T r)) ∧ Below w.heap.size w w' := by
  have hsz := (cells_ok ht).size
  have IA : Hid ((Tryz.prog.info? 32).map (·.size) = some (T.cells h).length) := Lib.hid (by rw [List.size_toArray] at hsz; rw [hsz]; exact infoT)
  have AO : Hid (∀ W, Calls Tryz.prog 53 #[.int .i64 (or4 r), .int .i64 (onS T : Nat)] W fun e w' => e = .returned (.bool (inR (or4 r) (onS T : Nat))) ∧ W = w') := Lib.hid (fun W => RkA.in_any _ _ W)
  have CL : Hid (∀ s W, Below w.heap.size w W → Calls Tryz.prog 94 #[.agg (T.cells h).toArray, .int .i64 s, .int .i64 s] W fun e w' => e = .returned (.bool (clashR T s s)) ∧ Below W.heap.size W w') := Lib.hid (fun s W hb => RkB.rclash_any T h s s W (ht.below hb))
  have AB : Hid (∀ s W, Below w.heap.size w W → Calls Tryz.prog 93 #[.agg (T.cells h).toArray, .int .i64 s] W fun e w' => e = .returned (.bool (exitR T s)) ∧ Below W.heap.size W w') := Lib.hid (fun s W hb => RkB.exit_any T h s W (ht.below hb) sm)
  obtain ⟨x, hx⟩ : ∃ x, x = railOk T r := ⟨_, rfl⟩
  rw [← hx]
  have HR : Hid (x = ((inR (or4 r) (onS T : Nat) && (r.dwell != 0 && (bits .and .i64 r.dwell r.bars == 0 && exitR T r.exit))) && (!clashR T r.clear r.clear && (!clashR T r.dwell r.dwell && (!clashR T r.exit r.exit && timesOk r))))) := Lib.hid hx
  have LT0 := Lib.hid (Row.lies_new w (T.cells h).toArray 32)
  have hs1 : (w.alloc (.cells (T.cells h).toArray 32)).heap.size = w.heap.size + 1 := by simp
  have hone := Rl.one r
  have hsz2 : r.cells.toArray.size = 11 := rfl
  have RC := Lib.hid (rail_cells r)
  have O4 : Hid (bits .or .i64 (bits .or .i64 (bits .or .i64 r.bars r.clear) r.dwell) r.exit = or4 r) := Lib.hid rfl
  obtain ⟨a1, ha1⟩ : ∃ z, inR (or4 r) (onS T : Nat) = z := ⟨_, rfl⟩
  obtain ⟨c1, hc1⟩ : ∃ z, clashR T r.clear r.clear = z := ⟨_, rfl⟩
  obtain ⟨c2, hc2⟩ : ∃ z, clashR T r.dwell r.dwell = z := ⟨_, rfl⟩
  obtain ⟨c3, hc3⟩ : ∃ z, clashR T r.exit r.exit = z := ⟨_, rfl⟩
  obtain ⟨b1, hb1⟩ : ∃ z, exitR T r.exit = z := ⟨_, rfl⟩
  have CL1 := Lib.hid (CL.out r.clear)
  have CL2 := Lib.hid (CL.out r.dwell)
  have CL3 := Lib.hid (CL.out r.exit)
  have AB1 := Lib.hid (AB.out r.exit)
  rw [ha1] at AO HR
  rw [hc1] at CL1 HR
  rw [hc2] at CL2 HR
  rw [hc3] at CL3 HR
  rw [hb1] at AB1 HR
  have TO : Hid (timesOk r = ((decide (0 < r.hold) == (r.clear != 0)) && (decide (1 ≤ r.green) && (decide (1 ≤ r.stay) && ((r.most == 0 || decide (r.stay ≤ r.most)) && decide (r.delay < r.limit)))))) := Lib.hid rfl
  rw [show a1 = true from ha1.symm.trans z0] at AO HR; rw [show b1 = true from hb1.symm.trans z3] at AB1 HR; rw [show c1 = false from hc1.symm.trans z4] at CL1 HR; rw [show c2 = false from hc2.symm.trans z5] at CL2 HR; rw [show c3 = true from hc3.symm.trans z6] at CL3 HR
  clear hx ht CL AB ha1 hc1 hc2 hc3 hb1
  generalize timesOk r = tk at *
  clear z0 z3 z4 z5 z6
  generalize or4 r = o4 at *
  generalize r.cells = rc at *
  obtain ⟨bars, clear_, dwell, exit, delay, green, foot, hold, stay, most, limit⟩ := r
  dsimp only at *
  generalize T.cells h = c at *
  generalize (((onS T : Nat)) : Int) = on at *
  go_enter Tryz.func52, Tryz.ntmps52
  go_upto_region 1 with fail
  obtain ⟨u, hu, E1, E0, EB, b1'⟩ := laid2 w (.cells c.toArray 32) (.cells rc.toArray 47)
  rw [hu]
  have A0 := Lib.hid E0
  have A1 := Lib.hid (LT0.out.below (by rw [hs1]; exact EB))
  have A2 : Hid (u.heap[w.heap.size + 1]? = some (.cells rc.toArray 47 (0, 0))) := Lib.hid b1'
  clear hu EB LT0 b1' hs1 hsz hsz2 hone E0 E1
  have H1 := Lib.hid z1
  clear z1
  have H3 := Lib.hid z2
  clear z2
  have zb : (dwell != 0) = true := bne_iff_ne.2 H1.out
  obtain ⟨q0, q1, q2, q3, q4, q5, q7, q8, q9, q10⟩ := RC.out _ _ A2.out
  go_wp2_with fail
  rw [O4.out]
  refine (AO.out _).mono ?_
  rintro e w' ⟨rfl, rfl⟩
  have zc : (bits .and .i64 dwell bars == 0) = true := beq_iff_eq.2 H3.out
  go_wp2_with (refine Row.wpList_load_g 32 _ rfl (by first | rfl | go_simp) ⟨w.heap.size, 0, none⟩ rfl c _ A1.out Tryz.underlying32 rfl IA.out ?_)
  (try go_wp2_with fail)
  refine (AB1.out _ A0.out).mono ?_
  rintro e u1 ⟨rfl, hb⟩
  replace A0 : Hid (Below w.heap.size w u1) := Lib.hid (A0.out.trans (hb.mono A0.out.size))
  replace A2 : Hid (u1.heap[w.heap.size + 1]? = some (.cells rc.toArray 47 (0, 0))) := Lib.hid ((hb.block _ (Array.getElem?_eq_some_iff.1 A2.out).1).trans A2.out)
  replace A1 := Lib.hid (A1.out.below hb)
  clear q0 q1 q2 q3 q4 q5 q7 q8 q9 q10
  clear hb
  obtain ⟨q0, q1, q2, q3, q4, q5, q7, q8, q9, q10⟩ := RC.out _ _ A2.out
  rename_i Q1 K1 hK1 K2 hK2
  refine hK2 _ _ ?_
  refine wpList_plain rfl (fun K hK => ?_)
  go_simp
  refine hK _ _ ?_
  clear hK K
  (try dsimp only [Act.put]); (try simp only [List.setIfInBounds_toArray, List.set_cons_zero, List.set_cons_succ])
  refine wpList_plain rfl (fun K hK => ?_)
  go_simp
  refine hK _ _ ?_
  clear hK K
  (try dsimp only [Act.put]); (try simp only [List.setIfInBounds_toArray, List.set_cons_zero, List.set_cons_succ])
  refine hK1 _ _ ?_
  clear hK2 K2 hK1 K1
  refine wp_seq_k (fun K1 hK1 => ?_)
  refine wp_region_lit ?_
  refine wpList_plain rfl (fun K hK => ?_)
  go_simp
  refine hK _ _ ?_
  clear hK K
  (try dsimp only [Act.put]); (try simp only [List.setIfInBounds_toArray, List.set_cons_zero, List.set_cons_succ])
  refine wpList_plain rfl (fun K hK => ?_)
  go_simp
  refine hK _ _ ?_
  clear hK K
  (try dsimp only [Act.put]); (try simp only [List.setIfInBounds_toArray, List.set_cons_zero, List.set_cons_succ])
  refine Row.wpList_load_g 32 _ rfl (by rfl) ⟨w.heap.size, 0, none⟩ rfl c _ A1.out Tryz.underlying32 rfl IA.out ?_
  (try dsimp only [Act.put]); (try simp only [List.setIfInBounds_toArray, List.set_cons_zero, List.set_cons_succ])
  refine BigFrame.wpList_want (by rfl) (fun K hK => ?_)
  go_simp
  refine hK _ _ ?_
  clear hK K
  (try dsimp only [Act.put]); (try simp only [List.setIfInBounds_toArray, List.set_cons_zero, List.set_cons_succ])
  refine BigFrame.wpList_want (by rfl) (fun K hK => ?_)
  go_simp
  refine hK _ _ ?_
  clear hK K
  (try dsimp only [Act.put]); (try simp only [List.setIfInBounds_toArray, List.set_cons_zero, List.set_cons_succ])
  refine BigFrame.wpList_want (by rfl) (fun K hK => ?_)
  go_simp
  refine hK _ _ ?_
  clear hK K
  (try dsimp only [Act.put]); (try simp only [List.setIfInBounds_toArray, List.set_cons_zero, List.set_cons_succ])
  refine BigFrame.wpList_want (by rfl) (fun K hK => ?_)
  go_simp
  refine hK _ _ ?_
  clear hK K
  (try dsimp only [Act.put]); (try simp only [List.setIfInBounds_toArray, List.set_cons_zero, List.set_cons_succ])
  refine BigFrame.wpList_want (by rfl) (fun K2 hK2 => ?_)
  go_simp
  refine (CL1.out _ A0.out).mono ?_
  rintro e u2 ⟨rfl, hb⟩
  replace A0 : Hid (Below w.heap.size w u2) := Lib.hid (A0.out.trans (hb.mono A0.out.size))
  replace A2 : Hid (u2.heap[w.heap.size + 1]? = some (.cells rc.toArray 47 (0, 0))) := Lib.hid ((hb.block _ (Array.getElem?_eq_some_iff.1 A2.out).1).trans A2.out)
  replace A1 := Lib.hid (A1.out.below hb)
  clear q0 q1 q2 q3 q4 q5 q7 q8 q9 q10
  clear hb
  obtain ⟨q0, q1, q2, q3, q4, q5, q7, q8, q9, q10⟩ := RC.out _ _ A2.out
  refine hK2 _ _ ?_
  clear hK2 K2
  refine BigFrame.wpList_want (by rfl) (fun K hK => ?_)
  go_simp
  refine hK _ _ ?_
  clear hK K
  (try dsimp only [Act.put]); (try simp only [List.setIfInBounds_toArray, List.set_cons_zero, List.set_cons_succ])
  refine wpList_plain rfl (fun K hK => ?_)
  go_simp
  refine hK _ _ ?_
  clear hK K
  (try dsimp only [Act.put]); (try simp only [List.setIfInBounds_toArray, List.set_cons_zero, List.set_cons_succ])
  refine wpList_plain rfl (fun K hK => ?_)
  go_simp
  refine hK _ _ ?_
  clear hK K
  (try dsimp only [Act.put]); (try simp only [List.setIfInBounds_toArray, List.set_cons_zero, List.set_cons_succ])
  refine Row.wpList_load_g 32 _ rfl (by rfl) ⟨w.heap.size, 0, none⟩ rfl c _ A1.out Tryz.underlying32 rfl IA.out ?_
  (try dsimp only [Act.put]); (try simp only [List.setIfInBounds_toArray, List.set_cons_zero, List.set_cons_succ])
  refine BigFrame.wpList_want (by rfl) (fun K hK => ?_)
  go_simp
  refine hK _ _ ?_
  clear hK K
  (try dsimp only [Act.put]); (try simp only [List.setIfInBounds_toArray, List.set_cons_zero, List.set_cons_succ])
  refine BigFrame.wpList_want (by rfl) (fun K hK => ?_)
  go_simp
  refine hK _ _ ?_
  clear hK K
  (try dsimp only [Act.put]); (try simp only [List.setIfInBounds_toArray, List.set_cons_zero, List.set_cons_succ])
  refine BigFrame.wpList_want (by rfl) (fun K hK => ?_)
  go_simp
  refine hK _ _ ?_
  clear hK K
  (try dsimp only [Act.put]); (try simp only [List.setIfInBounds_toArray, List.set_cons_zero, List.set_cons_succ])
  refine BigFrame.wpList_want (by rfl) (fun K hK => ?_)
  go_simp
  refine hK _ _ ?_
  clear hK K
  (try dsimp only [Act.put]); (try simp only [List.setIfInBounds_toArray, List.set_cons_zero, List.set_cons_succ])
  refine BigFrame.wpList_want (by rfl) (fun K2 hK2 => ?_)
  go_simp
  refine (CL2.out _ A0.out).mono ?_
  rintro e u3 ⟨rfl, hb⟩
  replace A0 : Hid (Below w.heap.size w u3) := Lib.hid (A0.out.trans (hb.mono A0.out.size))
  replace A2 : Hid (u3.heap[w.heap.size + 1]? = some (.cells rc.toArray 47 (0, 0))) := Lib.hid ((hb.block _ (Array.getElem?_eq_some_iff.1 A2.out).1).trans A2.out)
  replace A1 := Lib.hid (A1.out.below hb)
  clear q0 q1 q2 q3 q4 q5 q7 q8 q9 q10
  clear hb
  obtain ⟨q0, q1, q2, q3, q4, q5, q7, q8, q9, q10⟩ := RC.out _ _ A2.out
  refine hK2 _ _ ?_
  clear hK2 K2
  refine BigFrame.wpList_want (by rfl) (fun K hK => ?_)
  go_simp
  refine hK _ _ ?_
  clear hK K
  (try dsimp only [Act.put]); (try simp only [List.setIfInBounds_toArray, List.set_cons_zero, List.set_cons_succ])
  refine wpList_plain rfl (fun K hK => ?_)
  go_simp
  refine hK _ _ ?_
  clear hK K
  (try dsimp only [Act.put]); (try simp only [List.setIfInBounds_toArray, List.set_cons_zero, List.set_cons_succ])
  refine wpList_plain rfl (fun K hK => ?_)
  go_simp
  refine hK _ _ ?_
  clear hK K
  (try dsimp only [Act.put]); (try simp only [List.setIfInBounds_toArray, List.set_cons_zero, List.set_cons_succ])
  refine Row.wpList_load_g 32 _ rfl (by rfl) ⟨w.heap.size, 0, none⟩ rfl c _ A1.out Tryz.underlying32 rfl IA.out ?_
  (try dsimp only [Act.put]); (try simp only [List.setIfInBounds_toArray, List.set_cons_zero, List.set_cons_succ])
  refine BigFrame.wpList_want (by rfl) (fun K hK => ?_)
  go_simp
  refine hK _ _ ?_
  clear hK K
  (try dsimp only [Act.put]); (try simp only [List.setIfInBounds_toArray, List.set_cons_zero, List.set_cons_succ])
  refine BigFrame.wpList_want (by rfl) (fun K hK => ?_)
  go_simp
  refine hK _ _ ?_
  clear hK K
  (try dsimp only [Act.put]); (try simp only [List.setIfInBounds_toArray, List.set_cons_zero, List.set_cons_succ])
  refine BigFrame.wpList_want (by rfl) (fun K hK => ?_)
  go_simp
  refine hK _ _ ?_
  clear hK K
  (try dsimp only [Act.put]); (try simp only [List.setIfInBounds_toArray, List.set_cons_zero, List.set_cons_succ])
  refine BigFrame.wpList_want (by rfl) (fun K hK => ?_)
  go_simp
  refine hK _ _ ?_
  clear hK K
  (try dsimp only [Act.put]); (try simp only [List.setIfInBounds_toArray, List.set_cons_zero, List.set_cons_succ])
  refine BigFrame.wpList_want (by rfl) (fun K2 hK2 => ?_)
  go_simp
  refine (CL3.out _ A0.out).mono ?_
  rintro e u4 ⟨rfl, hb⟩
  replace A0 : Hid (Below w.heap.size w u4) := Lib.hid (A0.out.trans (hb.mono A0.out.size))
  replace A2 : Hid (u4.heap[w.heap.size + 1]? = some (.cells rc.toArray 47 (0, 0))) := Lib.hid ((hb.block _ (Array.getElem?_eq_some_iff.1 A2.out).1).trans A2.out)
  replace A1 := Lib.hid (A1.out.below hb)
  clear q0 q1 q2 q3 q4 q5 q7 q8 q9 q10
  clear hb
  obtain ⟨q0, q1, q2, q3, q4, q5, q7, q8, q9, q10⟩ := RC.out _ _ A2.out
  refine hK2 _ _ ?_
  clear hK2 K2
  refine BigFrame.wpList_want (by rfl) (fun K hK => ?_)
  go_simp
  refine hK _ _ ?_
  clear hK K
  (try dsimp only [Act.put]); (try simp only [List.setIfInBounds_toArray, List.set_cons_zero, List.set_cons_succ])
  have HX : Hid (false = x) := Lib.hid (by rw [HR.out]; simp)
  clear HR RC
  refine Early.out_get (by kernel_rfl) ?_
  refine hK1 _ _ ?_
  refine wp_ret ?_
  exact bodyPost_ret (v := .bool false) (by kernel_rfl) (by kernel_rfl) ⟨ret_bool HX.out, A0.out⟩
end Go.Proofs.YtjolhoilcibdfaaGreat.RkC
