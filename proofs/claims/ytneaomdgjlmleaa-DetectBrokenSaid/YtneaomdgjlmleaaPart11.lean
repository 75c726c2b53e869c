/- 2 texts in one file, in build order. -/
import Derived.Test.YtneaomdgjlmleaaPart10
import Derived.Laws.OwnMore
import Derived.Test.YtneaomdgjlmleaaRows
import Derived.Test.YtneaomdgjlmleaaPart03
import Derived.Test.YtneaomdgjlmleaaPart04
import Derived.Test.YtneaomdgjlmleaaPart05
import Derived.Deep.Cut
import Derived.Deep.CutRange
set_option linter.unusedVariables false
set_option linter.unusedSimpArgs false
set_option linter.unusedSectionVars false
set_option maxHeartbeats 8000000
set_option maxRecDepth 100000
namespace Go.Proofs.Ytneaomdgjlmleaa
namespace Dtc
open Go.ChangeShapes Go.WideShapes Go.ChangeAt Go.RowKit
open Tab GenT Gath BendU GenG Go.Proofs.Fl
open RefS (num num_range)
open Lvl (stp failed bad ge le)
open Dig (stk)
open Dly (tmr)
open Cnt (ct more)
/-- All phases of the first q detectors. -/
def alls (ds : List Det) : Nat → Nat
  | 0 => 0
  | q + 1 => SetM.withN (alls ds q : Nat) (ds.getD q default).phase
theorem her_all {ds : List Det} {l : List Ch} : ∀ q, (∀ d, d < q → out (ds.getD d default) (l.getD d zCh) = true) → her ds l q = alls ds q
  | 0, _ => rfl
  | q + 1, h => by
    unfold her alls
    rw [if_pos (h q (Nat.lt_succ_self q)), her_all q (fun d hd => h d (Nat.lt_succ_of_lt hd))]
theorem her_none {ds : List Det} {l : List Ch} : ∀ q, (∀ d, d < q → out (ds.getD d default) (l.getD d zCh) = false) → her ds l q = 0
  | 0, _ => rfl
  | q + 1, h => by
    unfold her
    rw [if_neg (by rw [h q (Nat.lt_succ_self q)]; simp), her_none q (fun d hd => h d (Nat.lt_succ_of_lt hd))]
/-- A bad sample counts. -/
theorem bad_step {d : Det} {c : Ch} {x : Nat} {j : Nat} (hb : bad x = true) (h : j = 0 ∨ ((min j 3 : Nat) : Int) ≤ c.lv.bad) : ((min (j + 1) 3 : Nat) : Int) ≤ (chn d c x).lv.bad := by
  show _ ≤ (stp d.on d.off c.lv x).bad
  unfold stp
  rw [if_pos hb]
  show _ ≤ more c.lv.bad
  have h1 := Cnt.more_lo c.lv.bad
  rcases h with rfl | h
  · simpa using h1
  · unfold more at *
    unfold ct at *
    split <;> (try split) <;> (rename_i h2; first | omega | (simp only [h2, if_true, if_false] at *; omega))
theorem bad_out {d : Det} {c : Ch} (h : 3 ≤ c.lv.bad) : out d c = true := by
  unfold out failed
  rw [decide_eq_true h]
  simp
/-- The tail is at most five ticks. -/
def Tl (c : Ch) : Prop := c.tm.out = true → 0 ≤ c.tm.tail ∧ c.tm.tail ≤ 5
theorem tmr_tl {kd ke : Int} {s : Dly.Tm} {i : Bool} (hk : ke ≤ 5) (h : s.out = true → 0 ≤ s.tail ∧ s.tail ≤ 5) : (tmr kd ke s i).out = true → 0 ≤ (tmr kd ke s i).tail ∧ (tmr kd ke s i).tail ≤ 5 := by
  have h0 := Cnt.ct_lo (n := ke) (a := 0) (b := 9999) (by decide)
  have h1 : ct ke 0 9999 ≤ 5 := by unfold ct; split <;> (try split) <;> omega
  unfold tmr
  generalize (if i = true then more s.held else (0 : Int)) = hh
  dsimp only
  by_cases c1 : ct kd 0 9999 < hh
  · rw [if_pos c1]; intro _; exact ⟨h0, h1⟩
  · rw [if_neg c1]
    by_cases c2 : s.out = true ∧ 0 < ct s.tail 0 9999
    · rw [if_pos c2]
      intro _
      have h3 := h c2.1
      have h4 : ct s.tail 0 9999 = s.tail := Cnt.ct_in h3.1 (by omega)
      have h5 := c2.2
      rw [h4] at h5
      rw [h4]
      exact ⟨by show 0 ≤ s.tail - 1; omega, by show s.tail - 1 ≤ 5; omega⟩
    · rw [if_neg c2]; intro e; cases e
theorem tl_step {d : Det} {c : Ch} {x : Nat} (hd : tkv d.extend ≤ 5) (h : Tl c) : Tl (chn d c x) := tmr_tl hd h
/-- A detector for which zero is off. -/
structure Quiet (d : Det) : Prop where
  on : ge 0 d.on = false
  off : le 0 d.off = true
  ext : tkv d.extend ≤ 5
/-- q ticks of zero. -/
def Fade (q : Nat) (c : Ch) : Prop := (c.tm.out = true → 0 ≤ c.tm.tail ∧ c.tm.tail + q ≤ 5) ∧ (0 < q → c.lv.bad = 0)
theorem bad_zero : bad 0 = false := by decide
theorem fade_step {d : Det} {c : Ch} {q : Nat} (hd : Quiet d) (h : Fade q c) : Fade (q + 1) (chn d c 0) := by
  have hs : stp d.on d.off c.lv 0 = ⟨false, 0⟩ := by
    unfold stp
    rw [if_neg (by rw [bad_zero]; simp), if_neg (by rw [hd.on]; simp), if_pos hd.off]
  have hn : Lvl.seen ⟨false, 0⟩ = false := rfl
  refine ⟨?_, fun _ => ?_⟩
  · show (tmr _ _ c.tm (Lvl.seen (stp d.on d.off c.lv 0))).out = true → 0 ≤ (tmr _ _ c.tm (Lvl.seen (stp d.on d.off c.lv 0))).tail ∧ (tmr _ _ c.tm (Lvl.seen (stp d.on d.off c.lv 0))).tail + _ ≤ 5
    rw [hs, hn]
    unfold tmr
    have h0 := Cnt.ct_lo (n := tkv d.delay) (a := 0) (b := 9999) (by decide)
    simp only [Bool.false_eq_true, if_false]
    rw [if_neg (by omega)]
    split
    · rename_i h2
      intro _
      have h3 := h.1 h2.1
      have h4 : ct c.tm.tail 0 9999 = c.tm.tail := Cnt.ct_in h3.1 (by omega)
      rw [h4] at h2 ⊢
      exact ⟨by show 0 ≤ c.tm.tail - 1; omega, by show c.tm.tail - 1 + ((q + 1 : Nat) : Int) ≤ 5; have := h3.2; omega⟩
    · intro e; cases e
  · show (stp d.on d.off c.lv 0).bad = 0
    rw [hs]
theorem fade_out {d : Det} {c : Ch} {q : Nat} (hq : 6 ≤ q) (h : Fade q c) (h1 : d.maxOn = 0) (h2 : d.maxOff = 0) : out d c = false := by
  have ho : c.tm.out = false := by
    cases e : c.tm.out
    · rfl
    · have := h.1 e; omega
  unfold out failed stk
  rw [ho, h.2 (by omega), h1, h2]
  simp
theorem gen_quiet (L : List Int) (i n : Int) : Quiet (GenD.genDet L i n) := by
  have a := num_range L (i + 1) 4 (by decide)
  have b := num_range L (i + 2) 3 (by decide)
  have c := num_range L (i + 4) 6 (by decide)
  have ha : ∀ x : Nat, x < 4 → ge 0 (GenD.onTab x) = false := by decide +kernel
  have hb : ∀ x : Nat, x < 4 → ∀ y : Nat, y < 3 → le 0 (GenD.mulTab x y) = true := by decide +kernel
  have hc : ∀ x : Nat, x < 6 → tkv (Fl.ofB x) ≤ 5 := by decide +kernel
  have a1 := ha (num L (i + 1) 4).toNat (by omega)
  have b1 := hb (num L (i + 1) 4).toNat (by omega) (num L (i + 2) 3).toNat (by omega)
  have c1 := hc (num L (i + 4) 6).toNat (by omega)
  rw [Int.toNat_of_nonneg a.1] at a1 b1
  rw [Int.toNat_of_nonneg b.1] at b1
  exact ⟨a1, b1, c1⟩
theorem down_mem {α : Type} (f : Nat → α) (k : Nat) : ∀ j x, x ∈ down f k j → ∃ i, x = f i
  | 0, x, h => by simp [down] at h
  | j + 1, x, h => by
    rw [down] at h
    rcases List.mem_append.1 h with h | h
    · exact down_mem f k j x h
    · simp at h; exact ⟨_, h⟩
theorem gen_quiets (L : List Int) : ∀ d ∈ (genTab L).dets, Quiet d := by
  intro d hd
  rw [gen_dets] at hd
  obtain ⟨i, rfl⟩ := down_mem _ _ _ _ hd
  exact gen_quiet L _ _
theorem Det.len7 (d : Det) : d.cells.length = 7 := rfl
theorem flat_set {d d' : Det} {j : Nat} {x : Value} (hj : d.cells.set j x = d'.cells) (hj7 : j < 7) : ∀ (l : List Det) (i : Nat), l[i]? = some d → (l.set i d').flatMap Det.cells = (l.flatMap Det.cells).set (i * 7 + j) x
  | [], i, h => by simp at h
  | e :: l, 0, h => by
    obtain rfl : e = d := by simpa using h
    rw [List.set_cons_zero, List.flatMap_cons, List.flatMap_cons, ← hj, Nat.zero_mul, Nat.zero_add, List.set_append_left _ _ (by rw [Det.len7]; exact hj7)]
  | e :: l, i + 1, h => by
    have ih := flat_set hj hj7 l i (by simpa using h)
    rw [List.set_cons_succ, List.flatMap_cons, List.flatMap_cons, ih, List.set_append_right _ _ (by rw [Det.len7]; omega), Det.len7, show (i + 1) * 7 + j - 7 = i * 7 + j by omega]
/-- A number of a detector is written. -/
theorem det_num {w0 : World} {tb : Nat} {W : World} {hd : Hd} {T : Tab} (h : Ux w0 tb hd T W) {g i j : Nat} {d d' : Det} {x : Value} (hg : hd.d.a = some ⟨g, 0, none⟩) (hi : T.dets[i]? = some d) (hj : d.cells.set j x = d'.cells) (hj7 : j < 7) :
    Ux w0 tb hd { T with dets := T.dets.set i d' } (W.setCell ⟨g, i * 7 + j, none⟩ x) ∧ W.cell? ⟨g, i * 7 + j, none⟩ = d.cells[j]? ∧ W.frozen? ⟨g, i * 7 + j, none⟩ = false := by
  have hil : i < T.dets.length := (List.getElem?_eq_some_iff.1 hi).1
  obtain ⟨cap, cur, hB, hb, hc1, hc2, hcs, htk⟩ : ∃ cap cur, w0.heap.size ≤ g ∧ W.heap[g]? = some (.cells cur 65 (0, 0)) ∧ T.dets.length ≤ cap ∧ cap ≤ maxLen ∧ cur.size = cap * 7 ∧ cur.toList.take (T.dets.length * 7) = T.dets.flatMap Det.cells ∧ hd.d.cap = cap := by
    rcases h.dets.2 with ⟨e, _⟩ | ⟨g', cap, cur, e, h1, h2, h3, h4, h5, h6⟩
    · simp [Sl.val, hg] at e
    · simp [Sl.val, hg] at e
      obtain ⟨rfl, rfl⟩ := e
      exact ⟨_, cur, h1, h2, h3, h4, h5, h6, rfl⟩
  obtain ⟨htk, hcap⟩ := htk
  have hgr := grown_set W g (i * 7 + j) x
  have hlen : (T.dets.flatMap Det.cells).length = T.dets.length * 7 := Gath.flat_len Det.len7 _
  have hlt : i * 7 + j < T.dets.length * 7 := by omega
  have hne : tb ≠ g := fun e => by subst e; have := h.blk; rw [hb] at this; simp at this
  refine ⟨⟨h.bel.setCell (p := ⟨g, i * 7 + j, none⟩) hB x, h.tbB, ?_, h.ph, h.cf, h.fl, h.groups.grown hgr (fun m e => by cases e; exact ⟨_, _, hb, by decide, by decide⟩), ?_, own_kept h.rails hgr (fun m hm e => by cases e; exact own_ne h.rails hb (by decide) hm), own_kept h.buses hgr (fun m hm e => by cases e; exact own_ne h.buses hb (by decide) hm)⟩, ?_, frozen_of_row _ _ _ _ _ hb⟩
  · rw [heap_setCell_other _ _ _ _ hne, h.blk]
    simp [Tab.cells]
  · unfold Gath.Owns
    refine ⟨Gath.flat_len Det.len7 _, .inr ⟨g, cap, cur.setIfInBounds (i * 7 + j) x, by simp [Sl.val, hg, hcap], hB, heap_setCell_same _ _ _ _ _ _ hb, by rw [List.length_set]; exact hc1, hc2, by simpa using hcs, ?_⟩⟩
    rw [List.length_set, flat_set hj hj7 _ _ hi, ← htk, Array.toList_setIfInBounds, List.take_set]
  · rw [cell_of_row _ _ _ _ _ _ hb]
    have h1 : (cur.toList.take (T.dets.length * 7))[i * 7 + j]? = (T.dets.flatMap Det.cells)[i * 7 + j]? := by rw [htk]
    rw [List.getElem?_take, if_pos hlt, Array.getElem?_toList] at h1
    rw [h1]
    obtain ⟨v, hv⟩ : ∃ v, d.cells[j]? = some v := ⟨_, List.getElem?_eq_getElem (by rw [Det.len7]; exact hj7)⟩
    rw [hv]
    exact Copy.flat_at Det.len7 T.dets i d j v hi hv
theorem flt_rep (w : World) (x k : Nat) (hx : x < 18446744073709551616) (hk : k ≤ 1000) (t : TypeId) {cs : Array Value} (hcs : cs = (List.replicate k (F x)).toArray) : FltRow (w.alloc (.cells cs t)) ⟨some ⟨w.heap.size, 0, none⟩, k⟩ (List.replicate k x) := by
  have hf : ∀ m : Nat, (List.replicate m x).flatMap (fun x : Nat => [F x]) = List.replicate m (F x) := fun m => by
    induction m with
    | zero => rfl
    | succ m ih => rw [List.replicate_succ, List.flatMap_cons, ih]; rfl
  refine ⟨?_, fun y hy => by obtain rfl := (List.mem_replicate.1 hy).2; exact hx⟩
  have := Copy.row_of_block (enc := fun x : Nat => [F x]) (n := 1) (fun _ => rfl) (List.replicate k x) (w := w.alloc (.cells cs t)) (g := w.heap.size) (t := t) (fr := (0, 0)) (by rw [heap_alloc_new, hcs, hf]) (by rw [List.length_replicate]; unfold maxLen; omega)
  rwa [List.length_replicate] at this
theorem rep_getD {x k d : Nat} (h : d < k) : (List.replicate k x).getD d NAN = x := by
  rw [List.getD_eq_getElem?_getD, List.getElem?_replicate, if_pos h]; rfl
theorem zeros (w : World) : (Instr.makeSlice 50 (.int .i64 16) (.int .i64 16)).run Try.prog w = .ok (.slice (some ⟨w.heap.size, 0, none⟩) 16 16) (w.alloc (.cells (List.replicate 16 (F 0)).toArray 60)) := by
  obtain ⟨i, hi, hz, hs, hb⟩ := info_parts (show (Try.prog.info? 60).map (fun i => (i.zero, i.size, i.bytes)) = some (some (F 0), 1, 8) by kernel_rfl)
  have := run_make (P := Try.prog) w 50 60 i (F 0) Try.underlying50 hi hz .i64 .i64 16 16 (by decide) (by decide) (by rw [hb]; decide) (by decide)
  rw [hs] at this
  have e : madeCells (F 0 : Value).cells (Int.toNat 16 * 1) = (List.replicate 16 (F 0)).toArray := by
    apply Array.ext'
    rw [show (F 0 : Value).cells = #[F 0] from rfl]
    exact toList_madeCells_one _ _
  rw [this, e]
  rfl
theorem idx4b {a0 a1 a2 a3 : Nat} {p : Nat → Prop} (h0 : p a0) (h1 : p a1) (h2 : p a2) (h3 : p a3) (i : Nat) (hi : i < 4) : ∃ r, p r ∧ ∀ w, Sem.run Try.prog (Instr.index 63 (.agg #[F a0, F a1, F a2, F a3]) (.int .i64 (i : Int))) w = .ok (F r) w := by
  match i, hi with
  | 0, _ => exact ⟨a0, h0, fun w => by kernel_rfl⟩
  | 1, _ => exact ⟨a1, h1, fun w => by kernel_rfl⟩
  | 2, _ => exact ⟨a2, h2, fun w => by kernel_rfl⟩
  | 3, _ => exact ⟨a3, h3, fun w => by kernel_rfl⟩
theorem row_set {α : Type} {n : Nat} {enc : α → List Value} {W : World} {s : Sl} {l : List α} (h : RowOf n enc W s l) {g j : Nat} {v : Value} (hne : ∀ x, s.a = some x → x.block ≠ g) : RowOf n enc (W.setCell ⟨g, j, none⟩ v) s l := by
  rcases h with h | ⟨x, h1, h2, h3, h4⟩
  · exact .inl h
  · exact .inr ⟨x, h1, h2, h3, fun i u hu k z hz => (grown_set W g j v).cell (h4 i u hu k z hz) (by rw [add_block, add_block]; intro e; exact hne x h1 (Option.some.inj e))⟩
/-- A detector without bounds. -/
def z0 (d : Det) : Det := { d with maxOn := 0, maxOff := 0 }
/-- The first q have no bounds any more. -/
def dz (ds : List Det) (q : Nat) : List Det := (List.range ds.length).map fun i => if i < q then z0 (ds.getD i default) else ds.getD i default
theorem dz_len (ds : List Det) (q : Nat) : (dz ds q).length = ds.length := by simp [dz]
theorem dz_at {ds : List Det} {q i : Nat} (h : i < ds.length) : (dz ds q)[i]? = some (if i < q then z0 (ds.getD i default) else ds.getD i default) := by
  unfold dz
  rw [List.getElem?_map, List.getElem?_range h]; rfl
theorem dz_zero (ds : List Det) : dz ds 0 = ds := by
  apply List.ext_getElem?
  intro i
  by_cases h : i < ds.length
  · rw [dz_at h, if_neg (by omega), List.getD_eq_getElem?_getD, List.getElem?_eq_getElem h]; rfl
  · rw [List.getElem?_eq_none (by rw [dz_len]; omega), List.getElem?_eq_none (by omega)]
theorem dz_step {ds : List Det} {q : Nat} {d1 : Det} (h : q < ds.length) : ((dz ds q).set q d1).set q (z0 (ds.getD q default)) = dz ds (q + 1) := by
  apply List.ext_getElem?
  intro i
  rw [List.set_set, List.getElem?_set]
  by_cases hi : i < ds.length
  · by_cases e : q = i
    · subst e; rw [if_pos rfl, if_pos (by rw [dz_len]; exact h), dz_at h, if_pos (by omega)]
    · rw [if_neg e, dz_at hi, dz_at hi]
      congr 1
      by_cases h1 : i < q
      · rw [if_pos h1, if_pos (by omega)]
      · rw [if_neg h1, if_neg (by omega)]
  · rw [if_neg (by omega), List.getElem?_eq_none (by rw [dz_len]; omega), List.getElem?_eq_none (by rw [dz_len]; omega)]
theorem quiet_z0 {d : Det} (h : Quiet d) : Quiet (z0 d) := ⟨h.on, h.off, h.ext⟩
end Dtc
namespace Scr
open Go.ChangeShapes Go.WideShapes Go.ChangeAt Go.RowKit
open Tab Dtc
structure Frm where
  s : Sl
  n : Nat
  push : Int
  ask : Int
  lines : Int
  stray : Int
  reset : Bool
instance : Inhabited Frm := ⟨⟨⟨none, 0⟩, 0, 0, 0, 0, 0, false⟩⟩
def Frm.cells (f : Frm) : List Value := [f.s.val f.n, I f.push, I f.ask, I f.lines, I f.stray, .bool f.reset]
theorem Frm.len (f : Frm) : f.cells.length = 6 := rfl
/-- A frame whose samples can be read. -/
def Frm.ok (w : World) (f : Frm) : Prop := ∃ xs : List Nat, xs.length = f.n ∧ FltRow w f.s xs ∧ ∀ x, f.s.a = some x → ∃ cs : Array Value, w.heap[x.block]? = some (.cells cs 60 (0, 0))
theorem Frm.ok.below {w w' : World} {f : Frm} (h : f.ok w) (hb : Below w.heap.size w w') : f.ok w' := by
  obtain ⟨xs, h1, h2, h3⟩ := h
  refine ⟨xs, h1, h2.below hb, fun x hx => ?_⟩
  obtain ⟨cs, hc⟩ := h3 x hx
  exact ⟨cs, (hb.block _ (Array.getElem?_eq_some_iff.1 hc).1).trans hc⟩
theorem Frm.ok.grown {w w' : World} {f : Frm} {row : Option Nat} (h : f.ok w) (hg : w.grownBy w' row) (hne : ∀ m, row = some m → ∃ (cs : Array Value) (t : TypeId), w.heap[m]? = some (.cells cs t (0, 0)) ∧ t ≠ 60) : f.ok w' := by
  obtain ⟨xs, h1, h2, h3⟩ := h
  have far : ∀ x, f.s.a = some x → some x.block ≠ row := fun x hx e => by
    obtain ⟨cs, hc⟩ := h3 x hx
    obtain ⟨ds, t, hd, ht⟩ := hne _ e.symm
    rw [hc] at hd
    simp at hd
    exact ht hd.2.symm
  refine ⟨xs, h1, ⟨?_, h2.2⟩, fun x hx => ?_⟩
  · rcases h2.1 with h | ⟨x, k1, k2, k3, k4⟩
    · exact .inl h
    · exact .inr ⟨x, k1, k2, k3, fun i v hv j u hu => hg.cell (k4 i v hv j u hu) (by rw [GenG.add_block, GenG.add_block]; exact far x k1)⟩
  · obtain ⟨cs, hc⟩ := h3 x hx
    exact ⟨cs, (hg.block _ (Array.getElem?_eq_some_iff.1 hc).1 (far x hx)).trans hc⟩
/-- The state of the walk: blocks known whole, the frames gathered so far. -/
structure St (w : World) (B : Nat) (v : Value) (fs : List Frm) (L : List Blk.Bl) (W : World) : Prop where
  bks : Blk.Bks w L W
  own : Gath.Owns Frm.cells 6 B W 59 v fs
  ok : ∀ f ∈ fs, f.ok W
  typ : ∀ x ∈ L, x.2.2 ≠ 60
  sep : ∀ x ∈ L, v.ownBlock ≠ some x.1
  top : B ≤ W.heap.size
section
variable {w W W' : World} {B : Nat} {v : Value} {fs : List Frm} {L : List Blk.Bl}
theorem St.step (h : St w B v fs L W) (hb : Below W.heap.size W W') : St w B v fs L W' :=
  ⟨h.bks.step hb, h.own.below hb, fun f hf => (h.ok f hf).below hb, h.typ, h.sep, Nat.le_trans h.top hb.size⟩
theorem St.alloc (h : St w B v fs L W) (cs : Array Value) (t : TypeId) (ht : t ≠ 60) : St w B v fs ((W.heap.size, cs, t) :: L) (W.alloc (.cells cs t)) := by
  have hb : Below W.heap.size W (W.alloc (.cells cs t)) := (Below.refl _ _).alloc (Nat.le_refl _) _
  refine ⟨h.bks.alloc cs t, h.own.below hb, fun f hf => (h.ok f hf).below hb, ?_, ?_, Nat.le_trans h.top hb.size⟩
  · intro x hx
    rcases List.mem_cons.1 hx with rfl | hx
    · exact ht
    · exact h.typ x hx
  · intro x hx
    rcases List.mem_cons.1 hx with rfl | hx
    · intro e
      exact absurd (GenG.own_lt h.own _ e) (Nat.lt_irrefl _)
    · exact h.sep x hx
theorem St.drop {a : Blk.Bl} (h : St w B v fs (a :: L) W) : St w B v fs L W :=
  ⟨h.bks.drop, h.own, h.ok, fun x hx => h.typ x (List.mem_cons_of_mem _ hx), fun x hx => h.sep x (List.mem_cons_of_mem _ hx), h.top⟩
theorem St.set (h : St w B v fs L W) (i j : Nat) {g : Nat} {cs : Array Value} {t : TypeId} (hi : L[i]? = some (g, cs, t)) (u : Value) : St w B v fs (L.set i (g, cs.setIfInBounds j u, t)) (W.setCell ⟨g, j, none⟩ u) := by
  have hm := List.mem_of_getElem? hi
  have hg := GenG.grown_set W g j u
  refine ⟨h.bks.set i j hi u, GenG.own_kept h.own hg (fun m hm' e => by cases e; exact h.sep _ hm hm'), fun f hf => (h.ok f hf).grown hg (fun m e => by cases e; exact ⟨cs, t, h.bks.at i hi, h.typ _ hm⟩), ?_, ?_, by simpa using h.top⟩
  · intro x hx
    rcases List.mem_or_eq_of_mem_set hx with hx | rfl
    · exact h.typ x hx
    · exact h.typ (g, cs, t) hm
  · intro x hx
    rcases List.mem_or_eq_of_mem_set hx with hx | rfl
    · exact h.sep x hx
    · exact h.sep (g, cs, t) hm
end
theorem inf_1 (w : World) : Calls Try.prog 32 #[.int .i64 1] w fun e w' => e = .returned (.float .f64 9218868437227405312) ∧ w = w' := by
  have hf := Lvl.frombits_call
  go_enter Try.func32, Try.ntmps32
  go_wp2_with (simp only [hf])
  go_ret
  exact ⟨rfl, rfl⟩
theorem inf_m1 (w : World) : Calls Try.prog 32 #[.int .i64 (-1)] w fun e w' => e = .returned (.float .f64 18442240474082181120) ∧ w = w' := by
  have hf := Lvl.frombits_call
  go_enter Try.func32, Try.ntmps32
  go_wp2_with (simp only [hf])
  go_ret
  exact ⟨rfl, rfl⟩
def Wf (X : Nat → Nat) : Prop := ∀ d, X d < 18446744073709551616
theorem Wf.set {X : Nat → Nat} {d v : Nat} (h : Wf X) (hv : v < 18446744073709551616) : Wf (fun i => if i = d then v else X i) := fun i => by
  show (if i = d then v else X i) < _
  split
  · exact hv
  · exact h i
end Scr
end Go.Proofs.Ytneaomdgjlmleaa
