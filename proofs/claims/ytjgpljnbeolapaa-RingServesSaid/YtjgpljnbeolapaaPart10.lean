/- 7 texts in one file, in build order. -/
import Derived.Test.YtjgpljnbeolapaaRows
import Derived.Test.YtjgpljnbeolapaaPart07
import Derived.Deep.Cut
import Derived.LoopTactic
import Derived.Great.BuildSlice
import Derived.Test.YtjgpljnbeolapaaPart01
import Derived.Test.YtjgpljnbeolapaaPart03
import Derived.Test.YtjgpljnbeolapaaPart08
import Derived.Test.YtjgpljnbeolapaaPart09
import Derived.Test.YtjgpljnbeolapaaPart04
set_option linter.unusedVariables false
set_option linter.unusedSimpArgs false
set_option linter.unusedSectionVars false
set_option maxHeartbeats 8000000
set_option maxRecDepth 100000
namespace Go.Proofs.Ytjgpljnbeolapaa
namespace Good9
open Go.ChangeShapes Go.WideShapes Go.ChangeAt Go.RowKit
open Tab Gath GenG GenT PlaceM
open Clone (zPh)
open GenT (zTab)
def gp : Ph := ⟨true, 1, 0, 1, 1, 0, 10, 0, 0, 0, 0, false, false⟩
def gc (p : Nat) : Int := if p = 0 then 2 else 1
def goodAt (q : Nat) : Tab := { zTab with phases := upd (fun _ => gp) zPh q, conflict := upd gc 0 q, flash := upd (fun _ => 1) 0 q }
def goodT : Tab := { goodAt 2 with groups := [([0, 1], [])] }
theorem infoTz : (Try.prog.info? 32).map (fun i => (i.zero, i.size)) = some (some (.agg (zTab.cells GenT.zHd).toArray), 131) := by kernel_rfl
theorem infoPz : (Try.prog.info? 24).map (·.size) = some 13 := by kernel_rfl
theorem wpList_store_mid {P : Program} {ops : Array Oper} {rest : List Oper} {op : Oper} {a : Act} {w w' : World} {Q : Exit → Act → World → Prop} (hw : Region.wanted op (yielded ops a.tmps) = true) (ty : TypeId) (x y : Operand) (ho : op.op = .store ty x y) (p : Addr) (cells : Array Value)
    (hx : a.eval x = .pointer (some p)) (hy : a.eval y = .agg cells) (hr : (Instr.storeAt ty (.pointer (some p)) (.agg cells)).run P w = .ok () w') (h : wpList P ops Q rest (a.put op.dst undef) w') : wpList P ops Q (op :: rest) a w :=
  BigFrame.wpList_want hw fun _ hK => by
    unfold Oper.wp execOp
    simp only [ho, hx, hy, Sem.run_bind, hr, Result.andThen_ok, Sem.run_pure]
    exact hK _ _ h
theorem store_ph2 {w W : World} {hd : Hd} {T : Tab} (h : Bx w hd T W) (p : Nat) (hp : p < 8) (x : Ph) :
    ∃ W', (Instr.storeAt 24 (.pointer (some ⟨w.heap.size + 1, p * 13, none⟩)) (.agg x.cells.toArray)).run Try.prog W = .ok () W' ∧ Bx w hd { T with phases := T.phases.set p x } W' := by
  have hl := cells_cut hd h.ph h.cf h.fl
  have hr := Row.run_storeAt_at (P := Try.prog) W (w.heap.size + 1) (p * 13) 32 24 (T.cells hd).toArray x.cells.toArray h.blk infoPz (by simp [hl, Ph.cells]; omega) (Ph.one x)
  refine ⟨_, hr, h.write (GenT.setRow_grown _ _ _ h.size) ?_ (by simp [h.ph]) h.cf h.fl rfl rfl rfl rfl⟩
  rw [setRow_heap _ _ _ _ _ _ h.blk, ← cells_phase hd h.ph p hp x, Nat.mul_comm 13 p]
  rfl
theorem start (w : World) : Bx w GenT.zHd (goodAt 0) ((w.alloc (.cells (zTab.cells GenT.zHd).toArray 32)).alloc (.cells (zTab.cells GenT.zHd).toArray 32)) :=
  ⟨((Below.refl _ _).alloc (Nat.le_refl _) _).alloc (by simp) _, heap_alloc2_old w _ _, heap_alloc2_new w _ _, rfl, rfl, rfl, ⟨[], rfl, RowOf.nil _, (by intro x hx; simp [GenT.zHd] at hx), (by intro g hg; simp at hg)⟩, Owns.nil, Owns.nil, Owns.nil, (by intro x hx; simp [GenT.zHd] at hx)⟩
def gHd (S : Nat) : Hd := ⟨⟨some ⟨S + 1, 0, none⟩, 1⟩, ⟨none, 0⟩, ⟨none, 0⟩, ⟨none, 0⟩⟩
theorem laidG (wr : World) : GrT ((wr.alloc (.cells #[I 0, I 1] 3)).alloc (.cells #[.slice (some ⟨wr.heap.size, 0, none⟩) 2 2, .slice none 0 0] 92)) ⟨some ⟨wr.heap.size + 1, 0, none⟩, 1⟩ [([0, 1], [])] := by
  have b0 := heap_alloc2_old wr (.cells #[I 0, I 1] 3) (.cells #[.slice (some ⟨wr.heap.size, 0, none⟩) 2 2, .slice none 0 0] 92)
  have b1 := heap_alloc2_new wr (.cells #[I 0, I 1] 3) (.cells #[.slice (some ⟨wr.heap.size, 0, none⟩) 2 2, .slice none 0 0] 92)
  generalize (wr.alloc (.cells #[I 0, I 1] 3)).alloc (.cells #[.slice (some ⟨wr.heap.size, 0, none⟩) 2 2, .slice none 0 0] 92) = W at *
  have l0 := Row.lies_of_block b0
  have l1 := Row.lies_of_block b1
  refine ⟨[⟨[0, 1], [], ⟨some ⟨wr.heap.size, 0, none⟩, 2⟩, ⟨none, 0⟩⟩], rfl, .inr ⟨_, rfl, Nat.le_refl _, (show 1 ≤ maxLen by decide), ?_⟩, ?_, ?_⟩
  · intro i v hv
    match i, hv with
    | 0, hv =>
      obtain rfl : _ = v := by simpa using hv
      simpa [Addr.add, Gr.cells, Sl.val] using l1
    | (i + 1), hv => simp at hv
  · intro x hx
    cases hx
    exact ⟨_, b1⟩
  · intro g hg
    simp only [List.mem_singleton] at hg
    subst hg
    refine ⟨⟨.inr ⟨_, rfl, Nat.le_refl _, (show 2 ≤ maxLen by decide), ?_⟩, ?_⟩, ⟨RowOf.nil _, fun x hx => by cases hx⟩⟩
    · intro i v hv j u hu
      match i, hv with
      | 0, hv =>
        obtain rfl : _ = v := by simpa using hv
        match j, hu with
        | 0, hu =>
          obtain rfl : _ = u := by simpa using hu
          rw [show (((⟨wr.heap.size, 0, none⟩ : Addr).add (0 * 1)).add 0) = ⟨wr.heap.size, 0, none⟩ from rfl, cell_of_row _ _ _ _ _ _ b0]
          rfl
        | (j + 1), hu => simp at hu
      | 1, hv =>
        obtain rfl : _ = v := by simpa using hv
        match j, hu with
        | 0, hu =>
          obtain rfl : _ = u := by simpa using hu
          rw [show (((⟨wr.heap.size, 0, none⟩ : Addr).add (1 * 1)).add 0) = ⟨wr.heap.size, 1, none⟩ from rfl, cell_of_row _ _ _ _ _ _ b0]
          rfl
        | (j + 1), hu => simp at hu
      | (i + 2), hv => simp at hv
    · intro x hx
      cases hx
      exact ⟨_, b0⟩
theorem laid {w wr W : World} (h : Bx w GenT.zHd (goodAt 2) W) (S : Nat) (hS : w.heap.size ≤ S) (hG : GrT W ⟨some ⟨S + 1, 0, none⟩, 1⟩ [([0, 1], [])]) : Bx w (gHd S) goodT (W.setCell ⟨w.heap.size + 1, 104, none⟩ (.slice (some ⟨S + 1, 0, none⟩) 1 1)) := by
  have hg := grown_set W (w.heap.size + 1) 104 (.slice (some ⟨S + 1, 0, none⟩) 1 1)
  refine ⟨h.bel.grown hg h.bel.size (fun k hk => by cases hk; omega), (hg.block _ (by have := h.size; omega) (fun e => by simp at e)).trans h.res, ?_, rfl, rfl, rfl, ?_, Owns.nil, Owns.nil, Owns.nil, (by intro x hx; cases hx; exact ⟨S + 1, rfl, by omega⟩)⟩
  · rw [heap_setCell_same _ _ _ _ _ _ h.blk]
    have := cells_groups (T := goodAt 2) GenT.zHd rfl ⟨some ⟨S + 1, 0, none⟩, 1⟩ [([0, 1], [])]
    simp only [Sl.val, List.length_singleton] at this
    rw [show goodT = { goodAt 2 with groups := [([0, 1], [])] } from rfl, show gHd S = ⟨⟨some ⟨S + 1, 0, none⟩, 1⟩, GenT.zHd.d, GenT.zHd.r, GenT.zHd.b⟩ from rfl, ← this]
    simp
  · exact hG.grown hg (fun m e => by
      cases e
      exact ⟨_, _, h.blk, by decide, by decide⟩)
end Good9
namespace Two19
open Go.ChangeShapes Go.WideShapes Go.ChangeAt Go.RowKit
open Tab Gath GenG GenT PlaceM Good9
open Clone (zPh)
open GenT (zTab)
def twoT : Tab := { goodAt 2 with groups := [([0], []), ([1], [])] }
def gHd (S : Nat) : Hd := ⟨⟨some ⟨S + 2, 0, none⟩, 2⟩, ⟨none, 0⟩, ⟨none, 0⟩, ⟨none, 0⟩⟩
theorem laidG (wr : World) : GrT (((wr.alloc (.cells #[I 0] 3)).alloc (.cells #[I 1] 3)).alloc (.cells #[.slice (some ⟨wr.heap.size, 0, none⟩) 1 1, .slice none 0 0, .slice (some ⟨wr.heap.size + 1, 0, none⟩) 1 1, .slice none 0 0] 92)) ⟨some ⟨wr.heap.size + 2, 0, none⟩, 2⟩ [([0], []), ([1], [])] := by
  have h := (((Blk.Bks.nil wr).alloc #[I 0] 3).alloc #[I 1] 3).alloc #[.slice (some ⟨wr.heap.size, 0, none⟩) 1 1, .slice none 0 0, .slice (some ⟨wr.heap.size + 1, 0, none⟩) 1 1, .slice none 0 0] 92
  rw [show ((wr.alloc (.cells #[I 0] 3)).alloc (.cells #[I 1] 3)).heap.size = wr.heap.size + 2 by simp, show (wr.alloc (.cells #[I 0] 3)).heap.size = wr.heap.size + 1 by simp] at h
  generalize ((wr.alloc (.cells #[I 0] 3)).alloc (.cells #[I 1] 3)).alloc (.cells #[.slice (some ⟨wr.heap.size, 0, none⟩) 1 1, .slice none 0 0, .slice (some ⟨wr.heap.size + 1, 0, none⟩) 1 1, .slice none 0 0] 92) = W at h ⊢
  have b0 := h.at 2 rfl
  have b1 := h.at 1 rfl
  have b2 := h.at 0 rfl
  have l2 := Row.lies_of_block b2
  have one : ∀ (b : Nat) (n : Int), W.heap[b]? = some (.cells #[I n] 3 (0, 0)) → IntRow W ⟨some ⟨b, 0, none⟩, 1⟩ [n] := fun b n hb => .inr ⟨_, rfl, Nat.le_refl _, (show 1 ≤ maxLen by decide), fun i v hv j u hu => by
    match i, hv with
    | 0, hv =>
      obtain rfl : _ = v := by simpa using hv
      match j, hu with
      | 0, hu =>
        obtain rfl : _ = u := by simpa using hu
        rw [show (((⟨b, 0, none⟩ : Addr).add (0 * 1)).add 0) = ⟨b, 0, none⟩ from rfl, cell_of_row _ _ _ _ _ _ hb]
        rfl
      | (j + 1), hu => simp at hu
    | (i + 1), hv => simp at hv⟩
  refine ⟨[⟨[0], [], ⟨some ⟨wr.heap.size, 0, none⟩, 1⟩, ⟨none, 0⟩⟩, ⟨[1], [], ⟨some ⟨wr.heap.size + 1, 0, none⟩, 1⟩, ⟨none, 0⟩⟩], rfl, .inr ⟨_, rfl, Nat.le_refl _, (show 2 ≤ maxLen by decide), ?_⟩, ?_, ?_⟩
  · intro i v hv
    match i, hv with
    | 0, hv =>
      obtain rfl : _ = v := by simpa using hv
      intro j u hu
      have := l2 j u (by
        match j, hu with
        | 0, hu => exact hu
        | 1, hu => exact hu
        | (j + 2), hu => simp [Gr.cells] at hu)
      simpa [Addr.add] using this
    | 1, hv =>
      obtain rfl : _ = v := by simpa using hv
      intro j u hu
      have := l2 (2 + j) u (by
        match j, hu with
        | 0, hu => exact hu
        | 1, hu => exact hu
        | (j + 2), hu => simp [Gr.cells] at hu)
      rw [Addr.add_mid] at this
      rw [show (1 * 2) = 2 from rfl, show (⟨wr.heap.size + 2, 0, none⟩ : Addr).add 2 = ⟨wr.heap.size + 2, 2, none⟩ from rfl, Addr.add_mid]
      rwa [Nat.zero_add] at this
    | (i + 2), hv => simp at hv
  · intro x hx
    cases hx
    exact ⟨_, b2⟩
  · intro g hg
    simp only [List.mem_cons, List.mem_singleton, List.not_mem_nil, or_false] at hg
    rcases hg with rfl | rfl
    · refine ⟨⟨one _ _ b0, ?_⟩, ⟨RowOf.nil _, fun x hx => by cases hx⟩⟩
      intro x hx
      cases hx
      exact ⟨_, b0⟩
    · refine ⟨⟨one _ _ b1, ?_⟩, ⟨RowOf.nil _, fun x hx => by cases hx⟩⟩
      intro x hx
      cases hx
      exact ⟨_, b1⟩
theorem laid {w wr W : World} (h : Bx w GenT.zHd (goodAt 2) W) (S : Nat) (hS : w.heap.size ≤ S) (hG : GrT W ⟨some ⟨S + 2, 0, none⟩, 2⟩ [([0], []), ([1], [])]) : Bx w (gHd S) twoT (W.setCell ⟨w.heap.size + 1, 104, none⟩ (.slice (some ⟨S + 2, 0, none⟩) 2 2)) := by
  have hg := grown_set W (w.heap.size + 1) 104 (.slice (some ⟨S + 2, 0, none⟩) 2 2)
  refine ⟨h.bel.grown hg h.bel.size (fun k hk => by cases hk; omega), (hg.block _ (by have := h.size; omega) (fun e => by simp at e)).trans h.res, ?_, rfl, rfl, rfl, ?_, Owns.nil, Owns.nil, Owns.nil, (by intro x hx; cases hx; exact ⟨S + 2, rfl, by omega⟩)⟩
  · rw [heap_setCell_same _ _ _ _ _ _ h.blk]
    have := cells_groups (T := goodAt 2) GenT.zHd rfl ⟨some ⟨S + 2, 0, none⟩, 2⟩ [([0], []), ([1], [])]
    simp only [Sl.val, List.length_cons, List.length_nil, Nat.zero_add, Nat.reduceAdd] at this
    rw [show twoT = { goodAt 2 with groups := [([0], []), ([1], [])] } from rfl, show gHd S = ⟨⟨some ⟨S + 2, 0, none⟩, 2⟩, GenT.zHd.d, GenT.zHd.r, GenT.zHd.b⟩ from rfl, ← this]
    simp
  · exact hG.grown hg (fun m e => by
      cases e
      exact ⟨_, _, h.blk, by decide, by decide⟩)
theorem two_any (w : World) : Calls Try.prog 35 #[] w fun e w' => ∃ hd, e = .returned (.agg (twoT.cells hd).toArray) ∧ IsTab w' hd twoT ∧ Below w.heap.size w w' := by
  have hz := (zero_of_info Good9.infoTz).1
  have ST := Lib.hid (Good9.start w)
  have ZL : (zTab.cells GenT.zHd).length = 131 := rfl
  generalize hZ : zTab.cells GenT.zHd = Z at *
  clear hZ
  go_enter Try.func35, Try.ntmps35
  go_upto_region 2 with fail
  generalize (w.alloc (.cells Z.toArray 32)).alloc (.cells Z.toArray 32) = W0 at ST ⊢
  clear hz ZL
  go_wp2_with fail
  go_loopw [2] (fun i wr => ∃ q : Nat, q ≤ 2 ∧ i = .int .i64 q ∧ Bx w GenT.zHd (goodAt q) wr) (fun i _ => 2 - (intOf i).toNat)
  case atStart => exact ⟨0, by omega, rfl, ST.out⟩
  case round =>
    obtain ⟨q, hq, rfl, hB⟩ := hrel
    have HB := Lib.hid hB
    clear hB
    by_cases hlt : q < 2
    · obtain ⟨w3, hst, hB3⟩ := store_ph2 HB.out q (by omega) gp
      have HST := Lib.hid hst
      clear hst
      have HB3 := Lib.hid hB3
      have hs1 := hB3.set (105 + q) (I (gc q)) (cells_conflict GenT.zHd hB3.ph hB3.cf q (by omega) (gc q)) hB3.ph (by simp [goodAt, upd_len]) hB3.fl rfl rfl rfl rfl
      have e1 : (upd (fun _ => gp) zPh q).set q gp = upd (fun _ => gp) zPh (q + 1) := upd_succ _ _ _
      have e2 : (upd gc 0 q).set q (gc q) = upd gc 0 (q + 1) := upd_succ _ _ _
      have e3 : (upd (fun _ => (1 : Int)) 0 q).set q 1 = upd (fun _ => 1) 0 (q + 1) := upd_succ _ _ _
      have hs2 := hs1.set (121 + q) (I 1) (cells_flash GenT.zHd hs1.ph hs1.cf hs1.fl q (by omega) 1) hs1.ph hs1.cf (by simp [goodAt, upd_len]) rfl rfl rfl rfl
      have c5 : w3.cell? ⟨w.heap.size + 1, 105 + q, none⟩ = some (I 0) := (range_of HB3.out.blk 105 8 _ (cells_ok HB3.out.tab).conflict) q _ (by
        rw [List.getElem?_map]
        show ((upd gc 0 q)[q]?).map I = _
        rw [upd_at _ _ _ _ (by omega), if_neg (by omega)]; rfl)
      have f5 := HB3.out.frozen (105 + q)
      have c7 : (w3.setCell ⟨w.heap.size + 1, 105 + q, none⟩ (I (gc q))).cell? ⟨w.heap.size + 1, 121 + q, none⟩ = some (I 0) := (range_of hs1.blk 121 8 _ (cells_ok hs1.tab).flash) q _ (by
        rw [List.getElem?_map]
        show ((upd (fun _ => (1 : Int)) 0 q)[q]?).map I = _
        rw [upd_at _ _ _ _ (by omega), if_neg (by omega)]; rfl)
      have f7 := hs1.frozen (121 + q)
      have HS : Hid (Bx w GenT.zHd (goodAt (q + 1)) ((w3.setCell ⟨w.heap.size + 1, 105 + q, none⟩ (I (gc q))).setCell ⟨w.heap.size + 1, 121 + q, none⟩ (I 1))) := Lib.hid (by
        have h := hs2
        simp only [goodAt] at h
        rw [e1, e2, e3] at h
        exact h)
      clear hs1 hs2 e1 e2 e3 hB3 HB3 HB ST
      have h01 : q = 0 ∨ q = 1 := by omega
      clear hq hlt
      rcases h01 with rfl | rfl
      · have hg : gc 0 = 2 := rfl
        rw [hg] at c7 f7 HS
        rw [show ((0 : Nat) : Int) = (0 : Int) from rfl]
        go_wp2_with (refine Good9.wpList_store_mid (by rfl) 24 _ _ rfl ⟨w.heap.size + 1, 0 * 13, none⟩ gp.cells.toArray rfl rfl HST.out ?_)
        (try go_wp2)
        go_roundw
        case rel => exact ⟨0 + 1, by omega, by go_num, HS.out⟩
        case measure => simp [intOf]
      · have hg : gc 1 = 1 := rfl
        rw [hg] at c7 f7 HS
        rw [show ((1 : Nat) : Int) = (1 : Int) from rfl]
        go_wp2_with (refine Good9.wpList_store_mid (by rfl) 24 _ _ rfl ⟨w.heap.size + 1, 1 * 13, none⟩ gp.cells.toArray rfl rfl HST.out ?_)
        (try go_wp2)
        go_roundw
        case rel => exact ⟨1 + 1, by omega, by go_num, HS.out⟩
        case measure => simp [intOf]
    · obtain rfl : q = 2 := by omega
      have hbel : Below wr.heap.size wr (((wr.alloc (.cells #[I 0] 3)).alloc (.cells #[I 1] 3)).alloc (.cells #[.slice (some ⟨wr.heap.size, 0, none⟩) 1 1, .slice none 0 0, .slice (some ⟨wr.heap.size + 1, 0, none⟩) 1 1, .slice none 0 0] 92)) := (((Below.refl _ _).alloc (Nat.le_refl _) _).alloc (by simp) _).alloc (by simp; try omega) _
      have HW := Lib.hid (HB.out.step hbel)
      have c104 : (((wr.alloc (.cells #[I 0] 3)).alloc (.cells #[I 1] 3)).alloc (.cells #[.slice (some ⟨wr.heap.size, 0, none⟩) 1 1, .slice none 0 0, .slice (some ⟨wr.heap.size + 1, 0, none⟩) 1 1, .slice none 0 0] 92)).cell? ⟨w.heap.size + 1, 104, none⟩ = some (.slice none 0 0) := by rw [HW.out.cell]; rfl
      have f104 := HW.out.frozen 104
      have HL := Lib.hid (laid (wr := wr) HW.out wr.heap.size HB.out.bel.size (laidG wr))
      obtain ⟨w8, hst, hbk, htab, hbel8⟩ := HL.out.store_res
      have IA : Hid ((Try.prog.info? 32).map (·.size) = some (twoT.cells (gHd wr.heap.size)).length) := Lib.hid May.infoT
      have LT : Hid (Lies _ ⟨w.heap.size + 1, 0, none⟩ (twoT.cells (gHd wr.heap.size))) := Lib.hid (by have := Row.lies_of_block HL.out.blk; simpa using this)
      have FIN : Hid (∃ hd, Ending.returned (.agg (twoT.cells (gHd wr.heap.size)).toArray) = .returned (.agg (twoT.cells hd).toArray) ∧ IsTab w8 hd twoT ∧ Below w.heap.size w w8) := Lib.hid ⟨_, rfl, htab, hbel8⟩
      have HK := Lib.hid hbk
      have csl : (twoT.cells (gHd wr.heap.size)).length = 131 := rfl
      clear hbk htab hbel8 HL HW hbel HB ST hq hlt
      generalize twoT.cells (gHd wr.heap.size) = cs at *
      go_wp2_with (refine Row.wpList_load_g 32 _ rfl (by first | rfl | go_simp) ⟨w.heap.size + 1, 0, none⟩ rfl cs _ LT.out Try.underlying32 rfl IA.out ?_)
      (try simp only [Exit.inBlock, Exit.then])
      refine bodyPost_ret (v := .agg cs.toArray) ?_ rfl FIN.out
      exact results_cell_row rfl _ _ w.heap.size 32 _ (0, 0) _ rfl HK.out Try.underlying32 rfl (by have := IA.out; simpa using this)
end Two19
namespace Rg
open Go Go.ChangeShapes Go.WideShapes Go.ChangeAt Go.RowKit
open Tab Flat TabArg QL Ru PlanM
open ChkM (cfAt)
open Clear (phAt)
open PlaceM (where_ spots Spt)
open May (infoP)
open Two19 (twoT two_any)
theorem aw_step : stepS twoT ⟨0, -1, -1, false⟩ (begunS twoT) 1 = ⟨⟨0, 0, -1, false⟩, 1, 0⟩ := by decide +kernel
theorem aw_now : nowS twoT 0 0 0 = 0 := by decide +kernel
theorem aw_put : putS twoT 2 = ⟨1, 0, -1, false⟩ := by decide +kernel
theorem field_g (g a b : Int) (c : Bool) (w : World) : Sem.run Try.prog (Instr.field 36 (.agg (Rg.cells ⟨g, a, b, c⟩).toArray) 0) w = .ok (I g) w := by kernel_rfl
theorem awake_any (w : World) : Calls Try.prog 10 #[] w fun e w' => e = .returned (.bool true) ∧ Below w.heap.size w w' := by
  go_enter Try.func10, Try.ntmps10
  go_wp2_with fail
  refine (two_any w).mono ?_
  rintro e u ⟨hd, rfl, ht, hb⟩
  have ONE := (cells_ok ht).one
  have h1 : (twoT.cells hd).length = 131 := by have := (cells_ok ht).size; rwa [List.size_toArray] at this
  have IA : (Try.prog.info? 32).map (·.size) = some (twoT.cells hd).length := by rw [h1]; exact PlanW.infoT
  have HT : Hid (∀ W, Below u.heap.size u W → IsTab W hd twoT) := Lib.hid (fun W hb => ht.below hb)
  have ST : Hid (∀ W, Below u.heap.size u W → Calls Try.prog 12 #[.agg (twoT.cells hd).toArray, .agg (Rg.cells ⟨0, -1, -1, false⟩).toArray, .agg (runsC (begunS twoT)).toArray, .int .i64 1] W fun e w' => e = .returned (.tuple #[.agg (Rg.cells ⟨0, 0, -1, false⟩).toArray, I 1, I 0]) ∧ Below W.heap.size W w') := Lib.hid (fun W hb => by
    have h := step_any twoT hd ⟨0, -1, -1, false⟩ (begunS twoT) 1 W (HT.out W hb) (begun_len _) (by decide) (by decide)
    rwa [aw_step] at h)
  have BE : Hid (∀ W, Below u.heap.size u W → Calls Try.prog 19 #[.agg (twoT.cells hd).toArray] W fun e w' => e = .returned (.agg (runsC (begunS twoT)).toArray) ∧ Below W.heap.size W w') := Lib.hid (fun W hb => begun_any twoT hd W (HT.out W hb))
  have NW : Hid (∀ W, Below u.heap.size u W → Calls Try.prog 36 #[.agg (twoT.cells hd).toArray, .agg (Rg.cells ⟨0, 0, -1, false⟩).toArray, .int .i64 0] W fun e w' => e = .returned (.int .i64 0) ∧ Below W.heap.size W w') := Lib.hid (fun W hb => by
    have h := now_any twoT hd ⟨0, 0, -1, false⟩ 0 W (HT.out W hb) (by decide) (by decide)
    rwa [show nowS twoT (Rg.mk 0 0 (-1) false).g 0 ((Rg.mk 0 0 (-1) false).at 0) = 0 from aw_now] at h)
  have PU : Hid (∀ W, Below u.heap.size u W → Calls Try.prog 8 #[.agg (twoT.cells hd).toArray, .int .i64 2] W fun e w' => e = .returned (.agg (Rg.cells ⟨1, 0, -1, false⟩).toArray) ∧ Below W.heap.size W w') := Lib.hid (fun W hb => by
    have h := put_any twoT hd 2 W (HT.out W hb)
    rwa [aw_put] at h)
  have hz := (zero_of_info Good9.infoTz).1
  have ZS : (GenT.zTab.cells GenT.zHd).toArray.size = 131 := rfl
  generalize GenT.zTab.cells GenT.zHd = Z at *
  have HB := Lib.hid hb
  clear ht HT hb
  generalize twoT.cells hd = tc at *
  generalize runsC (begunS twoT) = rc at *
  go_upto_region 2 with (refine Row.wpList_store_new rfl 32 _ _ rfl u Z.toArray tc.toArray rfl rfl rfl (by rw [List.size_toArray]; exact IA) (by rw [ZS, List.size_toArray, h1]) ONE ?_)
  have hn := (Blk.Bks.nil u).alloc tc.toArray 32
  generalize World.alloc u _ = v1 at hn ⊢
  generalize hgt : u.heap.size = gt at hn ⊢
  have HV := Lib.hid hn.bel
  clear hgt
  have H1 := Lib.hid hn
  clear hn hz ZS ONE h1
  have LT : Hid (∀ W, Below v1.heap.size v1 W → Lies W ⟨gt, 0, none⟩ tc) := Lib.hid (fun W hb => by have := (H1.out.step hb).lies 0 rfl; simpa using this)
  (try dsimp only [Act.put]); (try simp only [List.setIfInBounds_toArray, List.set_cons_zero, List.set_cons_succ])
  go_cut [2, 3, 4] from 5 (fun t2 t3 t4 wx => ∃ gq, t2 = .pointer (some ⟨gq, 0, none⟩) ∧ t3 = I 1 ∧ t4 = I 0 ∧ Blk.Bks u [(gq, (Rg.cells ⟨0, 0, -1, false⟩).toArray, 36), (gt, tc.toArray, 32)] wx)
  case first =>
    refine wp_region_held (S := fun w' => Below v1.heap.size v1 w') (by kernel_rfl) ?_
    have hS : Below v1.heap.size v1 { v1 with drawn := v1.drawn + 1 } := (Below.refl _ _).drew
    have HA := Lib.hid (H1.out.step hS)
    generalize ({ v1 with drawn := v1.drawn + 1 } : World) = v at hS HA ⊢
    refine Held.take_load (i := 0) (some 7) rfl 32 (.tmp 1) ⟨gt, 0, none⟩ tc _ rfl rfl (by kernel_rfl) (by kernel_rfl) (by kernel_rfl) (fun _ _ _ h => h) (by rfl) hS rfl (fun w' hw' => LT.out w' hw') Try.underlying32 rfl IA ?_
    (try dsimp only [Act.put]); (try simp only [List.setIfInBounds_toArray, List.set_cons_zero, List.set_cons_succ])
    refine Held.take_build (i := 1) (some 8) rfl 34 #[(0, .const (I (-1))), (1, .const (I (-1)))] #[I (-1), I (-1)] rfl rfl (by kernel_rfl) (by kernel_rfl) (by kernel_rfl) (fun _ _ _ h => h) (by rfl) hS (by have h := builtA; first | (simp [Act.eval]; exact h) | (go_simp; exact h)) ?_
    (try dsimp only [Act.put]); (try simp only [List.setIfInBounds_toArray, List.set_cons_zero, List.set_cons_succ])
    refine Held.take_build (i := 2) (some 9) rfl 36 #[(1, .tmp 8)] (Rg.cells ⟨0, -1, -1, false⟩).toArray rfl rfl (by kernel_rfl) (by kernel_rfl) (by kernel_rfl) (fun _ _ _ h => h) (by rfl) hS (by have h := builtP; first | (simp [Act.eval]; exact h) | (go_simp; exact h)) ?_
    (try dsimp only [Act.put]); (try simp only [List.setIfInBounds_toArray, List.set_cons_zero, List.set_cons_succ])
    refine Held.take_load (i := 3) (some 10) rfl 32 (.tmp 1) ⟨gt, 0, none⟩ tc _ rfl rfl (by kernel_rfl) (by kernel_rfl) (by kernel_rfl) (fun _ _ _ h => h) (by rfl) hS rfl (fun w' hw' => LT.out w' hw') Try.underlying32 rfl IA ?_
    (try dsimp only [Act.put]); (try simp only [List.setIfInBounds_toArray, List.set_cons_zero, List.set_cons_succ])
    refine wpAnyH_ready (rs := [4, 10]) (by kernel_rfl) (by simp) (AllReadyH.cons rfl (fun K hK => ?_) (AllReadyH.cons rfl (fun K hK => ?_) AllReadyH.nil))
    · go_simp
      refine (BE.out _ (HV.out.trans (hS.mono HV.out.size))).mono ?_
      rintro e vn ⟨rfl, hb⟩
      have hq := hS.trans (hb.mono hS.size)
      have HA2 := Lib.hid (HA.out.step hb)
      clear hS hb HA
      have HA := HA2
      clear HA2
      go_simp
      refine hK.out _ _ hq (fun hS => ?_)
      clear hK K hq
      rename World => v
      (try dsimp only [Act.put]); (try simp only [List.setIfInBounds_toArray, List.set_cons_zero, List.set_cons_succ])
      refine wpAnyH_ready (rs := [5, 10]) (by kernel_rfl) (by simp) (AllReadyH.cons rfl (fun K hK => ?_) (AllReadyH.cons rfl (fun K hK => ?_) AllReadyH.nil))
      · go_simp
        refine (ST.out _ (HV.out.trans (hS.mono HV.out.size))).mono ?_
        rintro e vn ⟨rfl, hb⟩
        have hq := hS.trans (hb.mono hS.size)
        have HA2 := Lib.hid (HA.out.step hb)
        clear hS hb HA
        have HA := HA2
        clear HA2
        go_simp
        refine hK.out _ _ hq (fun hS => ?_)
        clear hK K hq
        rename World => v
        (try dsimp only [Act.put]); (try simp only [List.setIfInBounds_toArray, List.set_cons_zero, List.set_cons_succ])
        refine Held.take (i := 6) (some 6) rfl (v := ?_) rfl (by kernel_rfl) (by kernel_rfl) (by kernel_rfl) (fun _ _ _ h => h) (Or.inl ⟨by rfl, ?_⟩) hS ?_
        rotate_left
        · intro w' hw'
          go_simp
          try with_reducible rfl
        (try dsimp only [Act.put]); (try simp only [List.setIfInBounds_toArray, List.set_cons_zero, List.set_cons_succ])
        refine Held.take (i := 7) (some 13) rfl (v := ?_) rfl (by kernel_rfl) (by kernel_rfl) (by kernel_rfl) (fun _ _ _ h => h) (Or.inl ⟨by rfl, ?_⟩) hS ?_
        rotate_left
        · intro w' hw'
          go_simp
          try with_reducible rfl
        (try dsimp only [Act.put]); (try simp only [List.setIfInBounds_toArray, List.set_cons_zero, List.set_cons_succ])
        refine Held.take (i := 8) (some 14) rfl (v := ?_) rfl (by kernel_rfl) (by kernel_rfl) (by kernel_rfl) (fun _ _ _ h => h) (Or.inl ⟨by rfl, ?_⟩) hS ?_
        rotate_left
        · intro w' hw'
          go_simp
          try with_reducible rfl
        (try dsimp only [Act.put]); (try simp only [List.setIfInBounds_toArray, List.set_cons_zero, List.set_cons_succ])
        refine Held.take (i := 9) (some 15) rfl (v := ?_) rfl (by kernel_rfl) (by kernel_rfl) (by kernel_rfl) (fun _ _ _ h => h) (Or.inl ⟨by rfl, ?_⟩) hS ?_
        rotate_left
        · intro w' hw'
          go_simp
          try with_reducible rfl
        (try dsimp only [Act.put]); (try simp only [List.setIfInBounds_toArray, List.set_cons_zero, List.set_cons_succ])
        refine wpAnyH_ready (rs := [10]) (by kernel_rfl) (by simp) (AllReadyH.cons rfl (fun K hK => ?_) AllReadyH.nil)
        go_simp
        have ha := HA.out.alloc #[I 0, I 0, I 0, .bool false] 36
        have HGEgq := Lib.hid hS.size
        have hq := hS.alloc hS.size (.cells #[I 0, I 0, I 0, .bool false] 36)
        clear hS HA
        generalize v.heap.size = gq at ha HGEgq ⊢
        generalize World.alloc v _ = va at ha hq ⊢
        have HA := Lib.hid ha
        clear ha
        refine hK.out _ _ hq (fun hS => ?_)
        clear hK K hq
        rename World => v
        (try dsimp only [Act.put]); (try simp only [List.setIfInBounds_toArray, List.set_cons_zero, List.set_cons_succ])
        refine wpAnyH_ready (rs := [11]) (by kernel_rfl) (by simp) (AllReadyH.cons rfl (fun K hK => ?_) AllReadyH.nil)
        rw [if_pos (by rfl)]
        refine wp_store_row 36 _ _ rfl gq (Rg.cells ⟨0, 0, -1, false⟩).toArray rfl rfl 36 _ (HA.out.at 0 rfl) infoRg rfl (one_rg _) ?_
        have hq := below_setRow hS (g := gq) HGEgq.out (Rg.cells ⟨0, 0, -1, false⟩).toArray
        have hput := HA.out.put 0 rfl (Rg.cells ⟨0, 0, -1, false⟩).toArray
        simp only [List.set_cons_succ, List.set_cons_zero] at hput
        clear hS HA
        generalize World.setRow _ gq _ = vs at hput hq ⊢
        have HA := Lib.hid hput
        clear hput
        refine hK.out _ _ hq (fun hS => ?_)
        clear hK K hq
        rename World => v
        (try simp only [List.getElem_toArray, List.getElem_cons_succ, List.getElem_cons_zero])
        (try dsimp only [Act.put]); (try simp only [List.setIfInBounds_toArray, List.set_cons_zero, List.set_cons_succ])
        refine Held.take (i := 12) (some 3) rfl (v := ?_) rfl (by kernel_rfl) (by kernel_rfl) (by kernel_rfl) (fun _ _ _ h => h) (Or.inl ⟨by rfl, ?_⟩) hS ?_
        rotate_left
        · intro w' hw'
          go_simp
          try with_reducible rfl
        (try dsimp only [Act.put]); (try simp only [List.setIfInBounds_toArray, List.set_cons_zero, List.set_cons_succ])
        refine Held.take (i := 13) (some 4) rfl (v := ?_) rfl (by kernel_rfl) (by kernel_rfl) (by kernel_rfl) (fun _ _ _ h => h) (Or.inl ⟨by rfl, ?_⟩) hS ?_
        rotate_left
        · intro w' hw'
          go_simp
          try with_reducible rfl
        (try dsimp only [Act.put]); (try simp only [List.setIfInBounds_toArray, List.set_cons_zero, List.set_cons_succ])
        refine wpAnyH_done (by kernel_rfl) ?_ _
        go_wp2_with fail
        go_meet
        case rel => exact ⟨gq, rfl, rfl, rfl, HA.out⟩
      · go_simp
        have ha := HA.out.alloc #[I 0, I 0, I 0, .bool false] 36
        have HGEgq := Lib.hid hS.size
        have hq := hS.alloc hS.size (.cells #[I 0, I 0, I 0, .bool false] 36)
        clear hS HA
        generalize v.heap.size = gq at ha HGEgq ⊢
        generalize World.alloc v _ = va at ha hq ⊢
        have HA := Lib.hid ha
        clear ha
        refine hK.out _ _ hq (fun hS => ?_)
        clear hK K hq
        rename World => v
        (try dsimp only [Act.put]); (try simp only [List.setIfInBounds_toArray, List.set_cons_zero, List.set_cons_succ])
        refine wpAnyH_ready (rs := [5]) (by kernel_rfl) (by simp) (AllReadyH.cons rfl (fun K hK => ?_) AllReadyH.nil)
        go_simp
        refine (ST.out _ (HV.out.trans (hS.mono HV.out.size))).mono ?_
        rintro e vn ⟨rfl, hb⟩
        have hq := hS.trans (hb.mono hS.size)
        have HA2 := Lib.hid (HA.out.step hb)
        clear hS hb HA
        have HA := HA2
        clear HA2
        go_simp
        refine hK.out _ _ hq (fun hS => ?_)
        clear hK K hq
        rename World => v
        (try dsimp only [Act.put]); (try simp only [List.setIfInBounds_toArray, List.set_cons_zero, List.set_cons_succ])
        refine Held.take (i := 6) (some 6) rfl (v := ?_) rfl (by kernel_rfl) (by kernel_rfl) (by kernel_rfl) (fun _ _ _ h => h) (Or.inl ⟨by rfl, ?_⟩) hS ?_
        rotate_left
        · intro w' hw'
          go_simp
          try with_reducible rfl
        (try dsimp only [Act.put]); (try simp only [List.setIfInBounds_toArray, List.set_cons_zero, List.set_cons_succ])
        refine Held.take (i := 7) (some 13) rfl (v := ?_) rfl (by kernel_rfl) (by kernel_rfl) (by kernel_rfl) (fun _ _ _ h => h) (Or.inl ⟨by rfl, ?_⟩) hS ?_
        rotate_left
        · intro w' hw'
          go_simp
          try with_reducible rfl
        (try dsimp only [Act.put]); (try simp only [List.setIfInBounds_toArray, List.set_cons_zero, List.set_cons_succ])
        refine Held.take (i := 8) (some 14) rfl (v := ?_) rfl (by kernel_rfl) (by kernel_rfl) (by kernel_rfl) (fun _ _ _ h => h) (Or.inl ⟨by rfl, ?_⟩) hS ?_
        rotate_left
        · intro w' hw'
          go_simp
          try with_reducible rfl
        (try dsimp only [Act.put]); (try simp only [List.setIfInBounds_toArray, List.set_cons_zero, List.set_cons_succ])
        refine Held.take (i := 9) (some 15) rfl (v := ?_) rfl (by kernel_rfl) (by kernel_rfl) (by kernel_rfl) (fun _ _ _ h => h) (Or.inl ⟨by rfl, ?_⟩) hS ?_
        rotate_left
        · intro w' hw'
          go_simp
          try with_reducible rfl
        (try dsimp only [Act.put]); (try simp only [List.setIfInBounds_toArray, List.set_cons_zero, List.set_cons_succ])
        refine wpAnyH_ready (rs := [11]) (by kernel_rfl) (by simp) (AllReadyH.cons rfl (fun K hK => ?_) AllReadyH.nil)
        rw [if_pos (by rfl)]
        refine wp_store_row 36 _ _ rfl gq (Rg.cells ⟨0, 0, -1, false⟩).toArray rfl rfl 36 _ (HA.out.at 0 rfl) infoRg rfl (one_rg _) ?_
        have hq := below_setRow hS (g := gq) HGEgq.out (Rg.cells ⟨0, 0, -1, false⟩).toArray
        have hput := HA.out.put 0 rfl (Rg.cells ⟨0, 0, -1, false⟩).toArray
        simp only [List.set_cons_succ, List.set_cons_zero] at hput
        clear hS HA
        generalize World.setRow _ gq _ = vs at hput hq ⊢
        have HA := Lib.hid hput
        clear hput
        refine hK.out _ _ hq (fun hS => ?_)
        clear hK K hq
        rename World => v
        (try simp only [List.getElem_toArray, List.getElem_cons_succ, List.getElem_cons_zero])
        (try dsimp only [Act.put]); (try simp only [List.setIfInBounds_toArray, List.set_cons_zero, List.set_cons_succ])
        refine Held.take (i := 12) (some 3) rfl (v := ?_) rfl (by kernel_rfl) (by kernel_rfl) (by kernel_rfl) (fun _ _ _ h => h) (Or.inl ⟨by rfl, ?_⟩) hS ?_
        rotate_left
        · intro w' hw'
          go_simp
          try with_reducible rfl
        (try dsimp only [Act.put]); (try simp only [List.setIfInBounds_toArray, List.set_cons_zero, List.set_cons_succ])
        refine Held.take (i := 13) (some 4) rfl (v := ?_) rfl (by kernel_rfl) (by kernel_rfl) (by kernel_rfl) (fun _ _ _ h => h) (Or.inl ⟨by rfl, ?_⟩) hS ?_
        rotate_left
        · intro w' hw'
          go_simp
          try with_reducible rfl
        (try dsimp only [Act.put]); (try simp only [List.setIfInBounds_toArray, List.set_cons_zero, List.set_cons_succ])
        refine wpAnyH_done (by kernel_rfl) ?_ _
        go_wp2_with fail
        go_meet
        case rel => exact ⟨gq, rfl, rfl, rfl, HA.out⟩
    · go_simp
      have ha := HA.out.alloc #[I 0, I 0, I 0, .bool false] 36
      have HGEgq := Lib.hid hS.size
      have hq := hS.alloc hS.size (.cells #[I 0, I 0, I 0, .bool false] 36)
      clear hS HA
      generalize v.heap.size = gq at ha HGEgq ⊢
      generalize World.alloc v _ = va at ha hq ⊢
      have HA := Lib.hid ha
      clear ha
      refine hK.out _ _ hq (fun hS => ?_)
      clear hK K hq
      rename World => v
      (try dsimp only [Act.put]); (try simp only [List.setIfInBounds_toArray, List.set_cons_zero, List.set_cons_succ])
      refine wpAnyH_ready (rs := [4]) (by kernel_rfl) (by simp) (AllReadyH.cons rfl (fun K hK => ?_) AllReadyH.nil)
      go_simp
      refine (BE.out _ (HV.out.trans (hS.mono HV.out.size))).mono ?_
      rintro e vn ⟨rfl, hb⟩
      have hq := hS.trans (hb.mono hS.size)
      have HA2 := Lib.hid (HA.out.step hb)
      clear hS hb HA
      have HA := HA2
      clear HA2
      go_simp
      refine hK.out _ _ hq (fun hS => ?_)
      clear hK K hq
      rename World => v
      (try dsimp only [Act.put]); (try simp only [List.setIfInBounds_toArray, List.set_cons_zero, List.set_cons_succ])
      refine wpAnyH_ready (rs := [5]) (by kernel_rfl) (by simp) (AllReadyH.cons rfl (fun K hK => ?_) AllReadyH.nil)
      go_simp
      refine (ST.out _ (HV.out.trans (hS.mono HV.out.size))).mono ?_
      rintro e vn ⟨rfl, hb⟩
      have hq := hS.trans (hb.mono hS.size)
      have HA2 := Lib.hid (HA.out.step hb)
      clear hS hb HA
      have HA := HA2
      clear HA2
      go_simp
      refine hK.out _ _ hq (fun hS => ?_)
      clear hK K hq
      rename World => v
      (try dsimp only [Act.put]); (try simp only [List.setIfInBounds_toArray, List.set_cons_zero, List.set_cons_succ])
      refine Held.take (i := 6) (some 6) rfl (v := ?_) rfl (by kernel_rfl) (by kernel_rfl) (by kernel_rfl) (fun _ _ _ h => h) (Or.inl ⟨by rfl, ?_⟩) hS ?_
      rotate_left
      · intro w' hw'
        go_simp
        try with_reducible rfl
      (try dsimp only [Act.put]); (try simp only [List.setIfInBounds_toArray, List.set_cons_zero, List.set_cons_succ])
      refine Held.take (i := 7) (some 13) rfl (v := ?_) rfl (by kernel_rfl) (by kernel_rfl) (by kernel_rfl) (fun _ _ _ h => h) (Or.inl ⟨by rfl, ?_⟩) hS ?_
      rotate_left
      · intro w' hw'
        go_simp
        try with_reducible rfl
      (try dsimp only [Act.put]); (try simp only [List.setIfInBounds_toArray, List.set_cons_zero, List.set_cons_succ])
      refine Held.take (i := 8) (some 14) rfl (v := ?_) rfl (by kernel_rfl) (by kernel_rfl) (by kernel_rfl) (fun _ _ _ h => h) (Or.inl ⟨by rfl, ?_⟩) hS ?_
      rotate_left
      · intro w' hw'
        go_simp
        try with_reducible rfl
      (try dsimp only [Act.put]); (try simp only [List.setIfInBounds_toArray, List.set_cons_zero, List.set_cons_succ])
      refine Held.take (i := 9) (some 15) rfl (v := ?_) rfl (by kernel_rfl) (by kernel_rfl) (by kernel_rfl) (fun _ _ _ h => h) (Or.inl ⟨by rfl, ?_⟩) hS ?_
      rotate_left
      · intro w' hw'
        go_simp
        try with_reducible rfl
      (try dsimp only [Act.put]); (try simp only [List.setIfInBounds_toArray, List.set_cons_zero, List.set_cons_succ])
      refine wpAnyH_ready (rs := [11]) (by kernel_rfl) (by simp) (AllReadyH.cons rfl (fun K hK => ?_) AllReadyH.nil)
      rw [if_pos (by rfl)]
      refine wp_store_row 36 _ _ rfl gq (Rg.cells ⟨0, 0, -1, false⟩).toArray rfl rfl 36 _ (HA.out.at 0 rfl) infoRg rfl (one_rg _) ?_
      have hq := below_setRow hS (g := gq) HGEgq.out (Rg.cells ⟨0, 0, -1, false⟩).toArray
      have hput := HA.out.put 0 rfl (Rg.cells ⟨0, 0, -1, false⟩).toArray
      simp only [List.set_cons_succ, List.set_cons_zero] at hput
      clear hS HA
      generalize World.setRow _ gq _ = vs at hput hq ⊢
      have HA := Lib.hid hput
      clear hput
      refine hK.out _ _ hq (fun hS => ?_)
      clear hK K hq
      rename World => v
      (try simp only [List.getElem_toArray, List.getElem_cons_succ, List.getElem_cons_zero])
      (try dsimp only [Act.put]); (try simp only [List.setIfInBounds_toArray, List.set_cons_zero, List.set_cons_succ])
      refine Held.take (i := 12) (some 3) rfl (v := ?_) rfl (by kernel_rfl) (by kernel_rfl) (by kernel_rfl) (fun _ _ _ h => h) (Or.inl ⟨by rfl, ?_⟩) hS ?_
      rotate_left
      · intro w' hw'
        go_simp
        try with_reducible rfl
      (try dsimp only [Act.put]); (try simp only [List.setIfInBounds_toArray, List.set_cons_zero, List.set_cons_succ])
      refine Held.take (i := 13) (some 4) rfl (v := ?_) rfl (by kernel_rfl) (by kernel_rfl) (by kernel_rfl) (fun _ _ _ h => h) (Or.inl ⟨by rfl, ?_⟩) hS ?_
      rotate_left
      · intro w' hw'
        go_simp
        try with_reducible rfl
      (try dsimp only [Act.put]); (try simp only [List.setIfInBounds_toArray, List.set_cons_zero, List.set_cons_succ])
      refine wpAnyH_done (by kernel_rfl) ?_ _
      go_wp2_with fail
      go_meet
      case rel => exact ⟨gq, rfl, rfl, rfl, HA.out⟩
  case rest =>
  obtain ⟨gq, rfl, rfl, rfl, hcut⟩ := hcut
  have H2 := Lib.hid hcut
  clear hcut H1 LT HV ST BE
  rename World => wx
  have c1 : wx.cell? ⟨gq, 1, none⟩ = some (I 0) := H2.out.cell 0 1 rfl rfl
  have HF : ∀ W, Sem.run Try.prog (Instr.field 36 (.agg (Rg.cells ⟨1, 0, -1, false⟩).toArray) 0) W = .ok (I 1) W := fun W => field_g 1 0 (-1) false W
  go_wp2_with (first | (refine Row.wpList_load_g 32 _ rfl (by first | rfl | (go_simp; done) | fail) ⟨gt, 0, none⟩ rfl tc _ (by have := H2.out.lies 1 rfl; simpa using this) Try.underlying32 rfl IA ?_) | (refine Row.wpList_load_g 36 _ rfl (by first | rfl | (go_simp; done) | fail) ⟨gq, 0, none⟩ rfl (Rg.cells ⟨0, 0, -1, false⟩) _ (seg H2.out 0 0 rfl _ rfl) Try.underlying36 rfl infoRg ?_))
  refine (NW.out _ H2.out.bel).mono ?_
  rintro e w3 ⟨rfl, b3⟩
  have H3 := Lib.hid (H2.out.step b3)
  clear b3 H2 NW c1
  go_wp2_with (refine Row.wpList_load_g 32 _ rfl (by first | rfl | (go_simp; done) | fail) ⟨gt, 0, none⟩ rfl tc _ (by have := H3.out.lies 1 rfl; simpa using this) Try.underlying32 rfl IA ?_)
  refine (PU.out _ H3.out.bel).mono ?_
  rintro e w4 ⟨rfl, b4⟩
  have H4 := Lib.hid (H3.out.step b4)
  clear b4 H3 PU
  go_wp2
  go_ret
  exact ⟨rfl, HB.out.trans (H4.out.bel.mono HB.out.size)⟩
end Rg
namespace GenG
open Go.ChangeShapes Go.WideShapes Go.ChangeAt Go.RowKit
open Tab Gath
open RefS (num from_any num_range ret_int)
/-- Where the middle loop stands. -/
def Mid (Bg : Nat) (w1 : World) (p m n : Nat) (k : Nat) (s : Value) (W : World) : Prop :=
  (k = 0 ∧ s = .int .i64 p ∧ G0 Bg w1 none 0 p 0 W) ∨ (k = 1 ∧ s = .int .i64 (p + m : Nat) ∧ ∃ a c, G0 Bg w1 a c p m W) ∨ (k = 2 ∧ s = .int .i64 (p + m + n : Nat) ∧ ∃ a c a1 c1 B1, G1 Bg w1 B1 a c p m a1 c1 n W)
theorem rows_any (tb : Nat) (a : Option Addr) (cap : Nat) (L : List Int) (cs : List Value) (w : World) (hb : w.heap[tb]? = some (.cells cs.toArray 32 (0, 0))) (hc : cs.length = 131) (h104 : cs[104]? = some (.slice none 0 0))
    (HL : Hid (∀ W, w.grownBy W (some tb) → IntRow W ⟨a, cap⟩ L)) :
    Calls Try.prog 25 #[.pointer (some ⟨tb, 0, none⟩), .slice a L.length cap] w fun e w' => ∃ ga gc gs, e = .returned (.int .i64 (genN L : Nat)) ∧ gs.map Gr.data = genGs L ∧ GS w tb cs ga gc (genG L) gs w' := by
  obtain ⟨hG1, hG3⟩ := genG_range L
  have UP := Lib.hid (up_le L (genG L) hG3)
  have ST : Hid (GS w tb cs none 0 0 [] w) := Lib.hid (by
    refine ⟨World.grownBy.refl _ _, ?_, Owns.nil, rfl, fun x hx => by simp at hx⟩
    rw [hb]
    have : cs.set 104 (.slice none 0 0) = cs := by
      apply List.ext_getElem?
      intro j
      rw [List.getElem?_set]
      split
      · rename_i e
        subst e
        rw [h104]; simp [hc]
      · rfl
    rw [this])
  have N0 : Hid (genN L = (upTo L (genG L) (genG L)).2) := Lib.hid rfl
  have D0 : Hid (genGs L = (upTo L (genG L) (genG L)).1) := Lib.hid rfl
  have E0 : Hid ((1 + num L 0 3).toNat = genG L ∧ 0 ≤ num L 0 3 ∧ num L 0 3 < 3) := Lib.hid ⟨rfl, num_range L 0 3 (by omega)⟩
  generalize genN L = rn at N0 ⊢
  generalize genGs L = rg at D0 ⊢
  generalize genG L = G at *
  obtain ⟨i0, hi, hz0, hz1, hz2⟩ := info_parts RefS.info3
  obtain ⟨j0, hj, hy0, hy1, hy2⟩ := info_parts infoG3
  have hz := (zero_of_info infoGz).1
  clear hb h104
  go_enter Try.func25, Try.ntmps25
  go_wp2_with fail
  refine (from_at a cap L _ 0 3 (by go_num) w (HL.out _ (World.grownBy.refl _ _)) (by go_num) (by omega) (by omega)).mono ?_
  rintro e w' ⟨rfl, rfl⟩
  obtain ⟨e0, e1, e2⟩ := E0.out
  have E3 : Hid (1 + num L 0 3 = (G : Int)) := Lib.hid (by omega)
  clear e0
  generalize num L 0 3 = x0 at *
  go_upto_region 2 with fail
  rw [E3.out]
  clear e1 e2
  go_wp2_with fail
  go_loopw [6, 7] (fun s i wr => ∃ g : Nat, g ≤ G ∧ i = .int .i64 g ∧ s = .int .i64 ((upTo L G g).2 : Nat) ∧ ∃ ga gc gs, gs.map Gr.data = (upTo L G g).1 ∧ GS w tb cs ga gc g gs wr) (fun _ i _ => G - (intOf i).toNat)
  case atStart => exact ⟨0, by omega, rfl, rfl, none, 0, [], rfl, ST.out⟩
  case round =>
    obtain ⟨g, hg, rfl, rfl, ga, gc, gs, hdata, hgs⟩ := hrel
    have HS := Lib.hid hgs
    have HD := Lib.hid hdata
    clear hgs hdata
    rename World => wg
    by_cases hlt : g < G
    · have hp8 := UP.out g (by omega)
      have UN : Hid (upTo L G (g + 1) = ((upTo L G g).1 ++ [grpD L G g (upTo L G g).2], (upTo L G g).2 + n0 L G g (upTo L G g).2 + n1 L G g (upTo L G g).2)) := Lib.hid rfl
      have hp9 : (upTo L G g).2 + n0 L G g (upTo L G g).2 + n1 L G g (upTo L G g).2 ≤ 8 := UP.out (g + 1) (by omega)
      have GD : Hid (grpD L G g (upTo L G g).2 = (seg (upTo L G g).2 (n0 L G g (upTo L G g).2), seg ((upTo L G g).2 + n0 L G g (upTo L G g).2) (n1 L G g (upTo L G g).2))) := Lib.hid rfl
      have N1 : Hid (n1 L G g (upTo L G g).2 = min (want1 L g (n0 L G g (upTo L G g).2)) (lim G g - ((upTo L G g).2 + n0 L G g (upTo L G g).2))) := Lib.hid rfl
      have N0' : Hid (n0 L G g (upTo L G g).2 = min (want0 L g) (lim G g - (upTo L G g).2)) := Lib.hid rfl
      generalize (upTo L G g).2 = p at *
      generalize n0 L G g p = m at *
      generalize n1 L G g p = n at *
      have W0 := Lib.hid (want0_le L g)
      have W1 := Lib.hid (want1_le L g m)
      have LM : Hid (lim G g = 9 + g - G) := Lib.hid rfl
      have X0 : Hid (num L (1 + 2 * g) 3 = ((want0 L g : Nat) : Int)) := Lib.hid (by have := num_range L (1 + 2 * g) 3 (by omega); unfold want0; omega)
      have HLW : Hid (∀ W, Below wg.heap.size wg W → IntRow W ⟨a, cap⟩ L) := Lib.hid (fun W hb => HL.out W (HS.out.step hb).gb)
      have Z0 : Hid (G0 wg.heap.size wg none 0 p 0 (wg.alloc (.cells #[.slice none 0 0, .slice none 0 0] 92))) := Lib.hid ⟨(Below.refl _ _).alloc (Nat.le_refl _) _, heap_alloc_new wg _, Owns.nil⟩
      have BS : Hid (∀ a c W, G0 wg.heap.size wg a c p m W → wg.heap.size + 1 ≤ W.heap.size) := Lib.hid (fun a c W h => (Array.getElem?_eq_some_iff.1 h.box).1)
      go_upto_region 7 with fail
      generalize wg.alloc (.cells #[.slice none 0 0, .slice none 0 0] 92) = w2 at Z0 ⊢
      generalize hBg : wg.heap.size = Bg at *
      go_wp2_with fail
      go_loopw [6, 9] (fun s k wk => ∃ q : Nat, q ≤ 2 ∧ k = .int .i64 q ∧ Mid Bg wg p m n q s wk) (fun _ k _ => 2 - (intOf k).toNat)
      case atStart => exact ⟨0, by omega, rfl, .inl ⟨rfl, rfl, Z0.out⟩⟩
      case round =>
        obtain ⟨q, hq, rfl, hmid⟩ := hrel
        rcases hmid with ⟨rfl, rfl, hm⟩ | ⟨rfl, rfl, a0, c0, hm⟩ | ⟨rfl, rfl, a0, c0, a1, c1, B1, hm⟩
        · have HM := Lib.hid hm
          clear hm
          rw [show ((0 : Nat) : Int) = (0 : Int) from rfl]
          go_wp2_with fail
          refine (from_at a cap L _ (1 + 2 * g) 3 (by go_num) wr (HLW.out _ HM.out.bel) (by go_num) (by omega) (by omega)).mono ?_
          rintro e w' ⟨rfl, rfl⟩
          rw [X0.out]
          generalize want0 L g = v at *
          go_wp2_with fail
          go_loopw [6, 11] (fun s i wk => ∃ j : Nat, j ≤ m ∧ i = .int .i64 j ∧ s = .int .i64 (p + j : Nat) ∧ ∃ aa cc, G0 Bg wg aa cc p j wk) (fun _ i _ => m - (intOf i).toNat)
          case atStart => exact ⟨0, by omega, by go_num, by go_num, _, _, HM.out⟩
          case round =>
            obtain ⟨j, hj, rfl, rfl, aa, cc, hm⟩ := hrel
            have HM := Lib.hid hm
            clear hm
            by_cases hjl : j < m
            · have h1 : (j : Int) < (v : Int) := by have := N0'.out; omega
              have h2 : ((p + j : Nat) : Int) < 8 - ((G : Int) - 1 - g) := by have := N0'.out; have := LM.out; omega
              have c8 : wr.cell? ⟨Bg, 0, none⟩ = some (.slice aa j cc) := by rw [cell_of_row _ _ _ _ _ _ HM.out.box]; rfl
              have hsz : Bg + 1 ≤ wr.heap.size := (Array.getElem?_eq_some_iff.1 HM.out.box).1
              have hown2 : wr.ownsRow (Bg + 1) 3 1 (.slice aa j cc) j ((seg (p) j).flatMap (fun n => [I n])) := by have := HM.out.own; unfold Owns at this; rw [seg_len] at this; exact this
              go_wp2_with (at_builtin; refine wpList_append_own _ rfl _ _ 22 rfl (Bg + 1) 3 i0 (.int .i64 0) 1 8 Try.underlying22 hi hz0 hz1 hz2 rfl (by decide) _ _ _ rfl (hown2.alloc _) ⟨wr.heap.size, 0, none⟩ 1 1 [.int .i64 ((p + j : Nat) : Int)] rfl rfl ?c1 ?c2 ?c3 ?c4 ?c5 ?_)
              case c1 =>
                intro m q hm
                match m, hm with
                | 0, hm => simp at hm; subst hm; simp [Addr.add]
              case c2 => intro q hq; simp at hq; subst hq; rfl
              case c3 => unfold maxLen; omega
              case c4 => omega
              case c5 => simp; omega
              intro v' w3 hown' hgrow hnil'
              obtain ⟨hbx, a', c', rfl, hG⟩ := (HM.out.step ((Below.refl _ _).alloc (Nat.le_refl _) _) (by omega)).put (by simp; omega) hgrow hown'
              have c3 : w3.cell? ⟨Bg, 0, none⟩ = some (.slice aa j cc) := by rw [cell_of_row _ _ _ _ _ _ hbx]; rfl
              have f3 : w3.frozen? ⟨Bg, 0, none⟩ = false := frozen_of_row _ _ _ _ _ hbx
              have HG := Lib.hid hG
              clear hown' hgrow hown2 hnil' hbx hG HM
              go_wp2
              go_roundw
              case rel => exact ⟨j + 1, by omega, by go_num, by go_num, a', c', HG.out⟩
              case measure => simp [intOf]; omega
            · have hje : j = m := by omega
              by_cases h1 : (j : Int) < (v : Int)
              · have h2 : ¬ ((p + j : Nat) : Int) < 8 - ((G : Int) - 1 - g) := by have := N0'.out; have := LM.out; omega
                go_wp2
                go_roundw
                case rel => exact ⟨1, by omega, by go_num, .inr (.inl ⟨rfl, by (try rw [hje]); go_num, aa, cc, by have := HM.out; rw [hje] at this; exact this⟩)⟩
                case measure => simp [intOf]
              · go_wp2
                go_roundw
                case rel => exact ⟨1, by omega, by go_num, .inr (.inl ⟨rfl, by (try rw [hje]); go_num, aa, cc, by have := HM.out; rw [hje] at this; exact this⟩)⟩
                case measure => simp [intOf]
        · have HM := Lib.hid hm
          have hb1 := BS.out _ _ _ hm
          clear hm
          rw [show ((1 : Nat) : Int) = (1 : Int) from rfl]
          have HM1 := Lib.hid (HM.out.next)
          generalize hB1 : wr.heap.size = B1 at *
          have c80 : wr.cell? ⟨Bg, 0, none⟩ = some (.slice a0 m c0) := by rw [cell_of_row _ _ _ _ _ _ HM.out.box]; rfl
          go_wp2_with fail
          refine (from_at a cap L _ (2 + 2 * g) 3 (by go_num) wr (HLW.out _ HM.out.bel) (by go_num) (by omega) (by omega)).mono ?_
          rintro e w' ⟨rfl, rfl⟩
          have hx1 := num_range L (2 + 2 * g) 3 (by omega)
          have WQ : Hid (want1 L g m = if num L (2 + 2 * g) 3 = 0 ∧ m = 0 then 1 else (num L (2 + 2 * g) 3).toNat) := Lib.hid rfl
          generalize num L (2 + 2 * g) 3 = x1 at *
          generalize want1 L g m = v at *
          clear hB1 HM
          by_cases hx0 : x1 = 0
          · subst hx0
            by_cases hm0 : m = 0
            · have hv : v = 1 := by rw [WQ.out]; simp [hm0]
              subst hm0
              subst hv
              clear WQ
              go_wp2_with fail
              go_loopw [6, 11] (fun s i wk => ∃ j : Nat, j ≤ n ∧ i = .int .i64 j ∧ s = .int .i64 ((p + 0) + j : Nat) ∧ ∃ aa cc, G1 Bg wg B1 a0 c0 p 0 aa cc j wk) (fun _ i _ => n - (intOf i).toNat)
              case atStart => exact ⟨0, by omega, by go_num, by go_num, _, _, HM1.out⟩
              case round =>
                obtain ⟨j, hj, rfl, rfl, aa, cc, hm⟩ := hrel
                have HM := Lib.hid hm
                clear hm
                by_cases hjl : j < n
                · have h1 : (j : Int) < 1 := by have := N1.out; omega
                  have h2 : (((p + 0) + j : Nat) : Int) < 8 - ((G : Int) - 1 - g) := by have := N1.out; have := LM.out; omega
                  have c8 : wr.cell? ⟨Bg, 1, none⟩ = some (.slice aa j cc) := by rw [cell_of_row _ _ _ _ _ _ HM.out.box]; rfl
                  have hsz : B1 ≤ wr.heap.size := HM.out.sz
                  have hown2 : wr.ownsRow (B1) 3 1 (.slice aa j cc) j ((seg ((p + 0)) j).flatMap (fun n => [I n])) := by have := HM.out.own1; unfold Owns at this; rw [seg_len] at this; exact this
                  go_wp2_with (at_builtin; refine wpList_append_own _ rfl _ _ 22 rfl (B1) 3 i0 (.int .i64 0) 1 8 Try.underlying22 hi hz0 hz1 hz2 rfl (by decide) _ _ _ rfl (hown2.alloc _) ⟨wr.heap.size, 0, none⟩ 1 1 [.int .i64 (((p + 0) + j : Nat) : Int)] rfl rfl ?c1 ?c2 ?c3 ?c4 ?c5 ?_)
                  case c1 =>
                    intro m q hm
                    match m, hm with
                    | 0, hm => simp at hm; subst hm; simp [Addr.add]
                  case c2 => intro q hq; simp at hq; subst hq; rfl
                  case c3 => unfold maxLen; omega
                  case c4 => omega
                  case c5 => simp; omega
                  intro v' w3 hown' hgrow hnil'
                  obtain ⟨hbx, a', c', rfl, hG⟩ := (HM.out.step ((Below.refl _ _).alloc (Nat.le_refl _) _) (by omega)).put (by omega) (by simp; omega) hgrow hown'
                  have c3 : w3.cell? ⟨Bg, 1, none⟩ = some (.slice aa j cc) := by rw [cell_of_row _ _ _ _ _ _ hbx]; rfl
                  have f3 : w3.frozen? ⟨Bg, 1, none⟩ = false := frozen_of_row _ _ _ _ _ hbx
                  have HG := Lib.hid hG
                  clear hown' hgrow hown2 hnil' hbx hG HM
                  go_wp2
                  go_roundw
                  case rel => exact ⟨j + 1, by omega, by go_num, by go_num, a', c', HG.out⟩
                  case measure => simp [intOf]; omega
                · have hje : j = n := by omega
                  by_cases h1 : (j : Int) < 1
                  · have h2 : ¬ (((p + 0) + j : Nat) : Int) < 8 - ((G : Int) - 1 - g) := by have := N1.out; have := LM.out; omega
                    go_wp2
                    go_roundw
                    case rel => exact ⟨2, by omega, by go_num, .inr (.inr ⟨rfl, by (try rw [hje]); go_num, a0, c0, aa, cc, B1, by have := HM.out; rw [hje] at this; exact this⟩)⟩
                    case measure => simp [intOf]
                  · go_wp2
                    go_roundw
                    case rel => exact ⟨2, by omega, by go_num, .inr (.inr ⟨rfl, by (try rw [hje]); go_num, a0, c0, aa, cc, B1, by have := HM.out; rw [hje] at this; exact this⟩)⟩
                    case measure => simp [intOf]
            · have hv : v = 0 := by rw [WQ.out]; simp [hm0]
              have hmb : ((m : Int) == 0) = false := by rw [beq_eq_false_iff_ne]; omega
              subst hv
              clear WQ
              go_wp2_with fail
              clear hmb hm0
              go_loopw [6, 11] (fun s i wk => ∃ j : Nat, j ≤ n ∧ i = .int .i64 j ∧ s = .int .i64 ((p + m) + j : Nat) ∧ ∃ aa cc, G1 Bg wg B1 a0 c0 p m aa cc j wk) (fun _ i _ => n - (intOf i).toNat)
              case atStart => exact ⟨0, by omega, by go_num, by go_num, _, _, HM1.out⟩
              case round =>
                obtain ⟨j, hj, rfl, rfl, aa, cc, hm⟩ := hrel
                have HM := Lib.hid hm
                clear hm
                by_cases hjl : j < n
                · exfalso; have := N1.out; omega
                · have hje : j = n := by omega
                  by_cases h1 : (j : Int) < 0
                  · exfalso; omega
                  · go_wp2
                    go_roundw
                    case rel => exact ⟨2, by omega, by go_num, .inr (.inr ⟨rfl, by (try rw [hje]); go_num, a0, c0, aa, cc, B1, by have := HM.out; rw [hje] at this; exact this⟩)⟩
                    case measure => simp [intOf]
          · have hv : x1 = (v : Int) := by have := WQ.out; rw [if_neg (fun e => hx0 e.1)] at this; omega
            have hmb : (x1 == 0) = false := by rw [beq_eq_false_iff_ne]; exact hx0
            clear WQ
            go_wp2_with fail
            subst hv
            clear hmb hx0 hx1
            go_loopw [6, 11] (fun s i wk => ∃ j : Nat, j ≤ n ∧ i = .int .i64 j ∧ s = .int .i64 ((p + m) + j : Nat) ∧ ∃ aa cc, G1 Bg wg B1 a0 c0 p m aa cc j wk) (fun _ i _ => n - (intOf i).toNat)
            case atStart => exact ⟨0, by omega, by go_num, by go_num, _, _, HM1.out⟩
            case round =>
              obtain ⟨j, hj, rfl, rfl, aa, cc, hm⟩ := hrel
              have HM := Lib.hid hm
              clear hm
              by_cases hjl : j < n
              · have h1 : (j : Int) < (v : Int) := by have := N1.out; omega
                have h2 : (((p + m) + j : Nat) : Int) < 8 - ((G : Int) - 1 - g) := by have := N1.out; have := LM.out; omega
                have c8 : wr.cell? ⟨Bg, 1, none⟩ = some (.slice aa j cc) := by rw [cell_of_row _ _ _ _ _ _ HM.out.box]; rfl
                have hsz : B1 ≤ wr.heap.size := HM.out.sz
                have hown2 : wr.ownsRow (B1) 3 1 (.slice aa j cc) j ((seg ((p + m)) j).flatMap (fun n => [I n])) := by have := HM.out.own1; unfold Owns at this; rw [seg_len] at this; exact this
                go_wp2_with (at_builtin; refine wpList_append_own _ rfl _ _ 22 rfl (B1) 3 i0 (.int .i64 0) 1 8 Try.underlying22 hi hz0 hz1 hz2 rfl (by decide) _ _ _ rfl (hown2.alloc _) ⟨wr.heap.size, 0, none⟩ 1 1 [.int .i64 (((p + m) + j : Nat) : Int)] rfl rfl ?c1 ?c2 ?c3 ?c4 ?c5 ?_)
                case c1 =>
                  intro m q hm
                  match m, hm with
                  | 0, hm => simp at hm; subst hm; simp [Addr.add]
                case c2 => intro q hq; simp at hq; subst hq; rfl
                case c3 => unfold maxLen; omega
                case c4 => omega
                case c5 => simp; omega
                intro v' w3 hown' hgrow hnil'
                obtain ⟨hbx, a', c', rfl, hG⟩ := (HM.out.step ((Below.refl _ _).alloc (Nat.le_refl _) _) (by omega)).put (by omega) (by simp; omega) hgrow hown'
                have c3 : w3.cell? ⟨Bg, 1, none⟩ = some (.slice aa j cc) := by rw [cell_of_row _ _ _ _ _ _ hbx]; rfl
                have f3 : w3.frozen? ⟨Bg, 1, none⟩ = false := frozen_of_row _ _ _ _ _ hbx
                have HG := Lib.hid hG
                clear hown' hgrow hown2 hnil' hbx hG HM
                go_wp2
                go_roundw
                case rel => exact ⟨j + 1, by omega, by go_num, by go_num, a', c', HG.out⟩
                case measure => simp [intOf]; omega
              · have hje : j = n := by omega
                by_cases h1 : (j : Int) < (v : Int)
                · have h2 : ¬ (((p + m) + j : Nat) : Int) < 8 - ((G : Int) - 1 - g) := by have := N1.out; have := LM.out; omega
                  go_wp2
                  go_roundw
                  case rel => exact ⟨2, by omega, by go_num, .inr (.inr ⟨rfl, by (try rw [hje]); go_num, a0, c0, aa, cc, B1, by have := HM.out; rw [hje] at this; exact this⟩)⟩
                  case measure => simp [intOf]
                · go_wp2
                  go_roundw
                  case rel => exact ⟨2, by omega, by go_num, .inr (.inr ⟨rfl, by (try rw [hje]); go_num, a0, c0, aa, cc, B1, by have := HM.out; rw [hje] at this; exact this⟩)⟩
                  case measure => simp [intOf]
        · have HM := Lib.hid hm
          clear hm
          rw [show ((2 : Nat) : Int) = (2 : Int) from rfl]
          have HG1 := Lib.hid (HS.out.step (show Below wg.heap.size wg wr by rw [hBg]; exact HM.out.bel))
          go_upto_region 18 with fail
          refine wp_region_held (S := fun _ => True) (by kernel_rfl) ?_
          have hS : True := trivial
          have hgs : GS w tb cs ga gc g gs { wr with drawn := wr.drawn + 1 } := HG1.out.step (Below.refl _ _).drew
          have hg1 : G1 Bg wg B1 a0 c0 p m a1 c1 n { wr with drawn := wr.drawn + 1 } := HM.out.step (Below.refl _ _).drew (by rw [← hBg]; exact HM.out.bel.size)
          generalize ({ wr with drawn := wr.drawn + 1 } : World) = v at hgs hg1 ⊢
          clear HG1 HM HS
          refine Held.take (i := 0) (some 67) rfl (v := ?_) rfl (by kernel_rfl) (by kernel_rfl) (by kernel_rfl) (fun _ _ _ h => h) (Or.inl ⟨by rfl, ?_⟩) hS ?_
          rotate_left
          · intro w' hw'
            go_simp
            try with_reducible rfl
          (try dsimp only [Act.put]); (try simp only [List.setIfInBounds_toArray, List.set_cons_zero, List.set_cons_succ])
          refine Held.take (i := 1) (some 68) rfl (v := ?_) rfl (by kernel_rfl) (by kernel_rfl) (by kernel_rfl) (fun _ _ _ h => h) (Or.inl ⟨by rfl, ?_⟩) hS ?_
          rotate_left
          · intro w' hw'
            go_simp
            try with_reducible rfl
          (try dsimp only [Act.put]); (try simp only [List.setIfInBounds_toArray, List.set_cons_zero, List.set_cons_succ])
          refine Held.take (i := 2) (some 69) rfl (v := ?_) rfl (by kernel_rfl) (by kernel_rfl) (by kernel_rfl) (fun _ _ _ h => h) (Or.inl ⟨by rfl, ?_⟩) hS ?_
          rotate_left
          · intro w' hw'
            go_simp
            try with_reducible rfl
          (try dsimp only [Act.put]); (try simp only [List.setIfInBounds_toArray, List.set_cons_zero, List.set_cons_succ])
          refine Held.take (i := 3) (some 70) rfl (v := ?_) rfl (by kernel_rfl) (by kernel_rfl) (by kernel_rfl) (fun _ _ _ h => h) (Or.inl ⟨by rfl, ?_⟩) hS ?_
          rotate_left
          · intro w' hw'
            go_simp
            try with_reducible rfl
          (try dsimp only [Act.put]); (try simp only [List.setIfInBounds_toArray, List.set_cons_zero, List.set_cons_succ])
          refine wpAnyH_ready (rs := [4, 5]) (by kernel_rfl) (by simp) (AllReadyH.cons rfl (fun K hK => ?_) (AllReadyH.cons rfl (fun K hK => ?_) AllReadyH.nil))
          · have c4 : v.cell? ⟨tb, 104, none⟩ = some (.slice ga g gc) := by rw [cell_of_row _ _ _ _ _ _ hgs.tbk]; simp [hc]
            go_simp
            refine hK.out _ _ trivial (fun _ => ?_)
            clear hK K c4
            refine wpAnyH_ready (rs := [5]) (by kernel_rfl) (by simp) (AllReadyH.cons rfl (fun K hK => ?_) AllReadyH.nil)
            rw [if_pos (by rfl)]
            refine Row.wp_load_lies 92 _ rfl ⟨Bg, 0, none⟩ rfl [.slice a0 m c0, .slice a1 n c1] _ (Row.lies_of_block hg1.box) Try.underlying92 rfl infoG2 ?_
            (try dsimp only [Act.put]); (try simp only [List.setIfInBounds_toArray, List.set_cons_zero, List.set_cons_succ])
            refine hK.out _ _ trivial (fun _ => ?_)
            clear hK K
            refine wpAnyH_ready (rs := [6]) (by kernel_rfl) (by simp) (AllReadyH.cons rfl (fun K hK => ?_) AllReadyH.nil)
            go_simp
            have hbw : Below v.heap.size v (v.alloc (.cells #[.slice a0 m c0, .slice a1 n c1] 92)) := (Below.refl _ _).alloc (Nat.le_refl _) _
            have hN := heap_alloc_new v (.cells #[.slice a0 m c0, .slice a1 n c1] 92)
            replace hgs := hgs.step hbw
            replace hg1 := hg1.step hbw (by have := hg1.bel.size; omega)
            clear hbw
            generalize hbn : v.heap.size = bn at hN ⊢
            clear hbn
            generalize World.alloc v (.cells #[.slice a0 m c0, .slice a1 n c1] 92) = v at hgs hg1 hN ⊢
            refine hK.out _ _ trivial (fun _ => ?_)
            clear hK K
            refine wpAnyH_ready (rs := [7]) (by kernel_rfl) (by simp) (AllReadyH.cons rfl (fun K hK => ?_) AllReadyH.nil)
            rw [if_pos (by rfl)]
            have hown2 : v.ownsRow w.heap.size 92 2 (.slice ga g gc) g (gs.flatMap Gr.cells) := by have := hgs.own; unfold Owns at this; rw [hgs.len] at this; exact this
            refine wp_append_own _ _ _ _ rfl w.heap.size 92 j0 (.agg #[.slice none 0 0, .slice none 0 0]) 2 48 Try.underlying26 hj hy0 hy1 hy2 rfl (by decide) (.slice ga g gc) g _ rfl hown2 ⟨bn, 0, none⟩ 1 1 [.slice a0 m c0, .slice a1 n c1] rfl rfl ?c1 ?c2 ?c3 ?c4 hgs.gb.size ?_
            case c1 =>
              intro j e hj
              match j, hj with
              | 0, hj => simp at hj; subst hj; rw [Tab.add_zero, cell_of_row _ _ _ _ _ _ hN]; rfl
              | 1, hj => simp at hj; subst hj; rw [Tab.add_one, cell_of_row _ _ _ _ _ _ hN]; rfl
            case c2 => intro e he; simp at he; rcases he with rfl | rfl <;> rfl
            case c3 => unfold maxLen; omega
            case c4 => omega
            intro v' w5 hown' hgrow hnil'
            have hx : RowI v ⟨a0, c0⟩ (seg p m) ∧ RowI v ⟨a1, c1⟩ (seg (p + m) n) := by
              obtain ⟨s0, e0, r0⟩ := own_row hg1.own
              obtain ⟨s1, e1, r1⟩ := own_row hg1.own1
              simp only [Value.slice.injEq] at e0 e1
              obtain ⟨s0a, s0c⟩ := s0
              obtain ⟨s1a, s1c⟩ := s1
              obtain ⟨rfl, _, rfl⟩ := e0
              obtain ⟨rfl, _, rfl⟩ := e1
              exact ⟨r0, r1⟩
            obtain ⟨hbx, a', c', rfl, hG⟩ := hgs.put ⟨seg p m, seg (p + m) n, ⟨a0, c0⟩, ⟨a1, c1⟩⟩ hx hgrow hc (by rw [show (Gr.mk (seg p m) (seg (p + m) n) ⟨a0, c0⟩ ⟨a1, c1⟩).cells = [.slice a0 m c0, .slice a1 n c1] from by simp [Gr.cells, Sl.val, seg_len]]; exact hown')
            have c104 : w5.cell? ⟨tb, 104, none⟩ = some (.slice ga g gc) := by rw [cell_of_row _ _ _ _ _ _ hbx]; simp [hc]
            have f104 : w5.frozen? ⟨tb, 104, none⟩ = false := frozen_of_row _ _ _ _ _ hbx
            have HG := Lib.hid hG
            clear hown' hgrow hown2 hnil' hbx hG hgs hg1 hN hx
            refine hK.out _ _ trivial (fun _ => ?_)
            clear hK K
            refine Held.take (i := 8) (some 75) rfl (v := ?_) rfl (by kernel_rfl) (by kernel_rfl) (by kernel_rfl) (fun _ _ _ h => h) (Or.inl ⟨by rfl, ?_⟩) hS ?_
            rotate_left
            · intro w' hw'
              go_simp
              try with_reducible rfl
            (try dsimp only [Act.put]); (try simp only [List.setIfInBounds_toArray, List.set_cons_zero, List.set_cons_succ])
            refine Held.take (i := 9) (some 76) rfl (v := ?_) rfl (by kernel_rfl) (by kernel_rfl) (by kernel_rfl) (fun _ _ _ h => h) (Or.inl ⟨by rfl, ?_⟩) hS ?_
            rotate_left
            · intro w' hw'
              go_simp
              try with_reducible rfl
            (try dsimp only [Act.put]); (try simp only [List.setIfInBounds_toArray, List.set_cons_zero, List.set_cons_succ])
            refine wpAnyH_ready (rs := [10]) (by kernel_rfl) (by simp) (AllReadyH.cons rfl (fun K hK => ?_) AllReadyH.nil)
            go_simp
            refine hK.out _ _ trivial (fun _ => ?_)
            clear hK K
            refine wpAnyH_done (by kernel_rfl) ?_ _
            have HE : Hid (upTo L G (g + 1) = ((upTo L G g).1 ++ [(seg p m, seg (p + m) n)], p + m + n)) := Lib.hid (by rw [UN.out, GD.out])
            have HD2 : Hid ((gs ++ [Gr.mk (seg p m) (seg (p + m) n) ⟨a0, c0⟩ ⟨a1, c1⟩]).map Gr.data = (upTo L G (g + 1)).1) := Lib.hid (by rw [List.map_append, HD.out, HE.out]; simp [Gr.data])
            have HP2 : Hid ((upTo L G (g + 1)).2 = p + m + n) := Lib.hid (by rw [HE.out])
            clear hS c104 f104
            go_wp2
            go_roundw
            case rel => exact ⟨g + 1, by omega, by go_num, by rw [HP2.out]; go_num, a', c', _, HD2.out, HG.out⟩
            case measure => simp [intOf]; omega
          · rw [if_pos (by rfl)]
            refine Row.wp_load_lies 92 _ rfl ⟨Bg, 0, none⟩ rfl [.slice a0 m c0, .slice a1 n c1] _ (Row.lies_of_block hg1.box) Try.underlying92 rfl infoG2 ?_
            (try dsimp only [Act.put]); (try simp only [List.setIfInBounds_toArray, List.set_cons_zero, List.set_cons_succ])
            refine hK.out _ _ trivial (fun _ => ?_)
            clear hK K
            refine wpAnyH_ready (rs := [4, 6]) (by kernel_rfl) (by simp) (AllReadyH.cons rfl (fun K hK => ?_) (AllReadyH.cons rfl (fun K hK => ?_) AllReadyH.nil))
            · have c4 : v.cell? ⟨tb, 104, none⟩ = some (.slice ga g gc) := by rw [cell_of_row _ _ _ _ _ _ hgs.tbk]; simp [hc]
              go_simp
              refine hK.out _ _ trivial (fun _ => ?_)
              clear hK K c4
              refine wpAnyH_ready (rs := [6]) (by kernel_rfl) (by simp) (AllReadyH.cons rfl (fun K hK => ?_) AllReadyH.nil)
              go_simp
              have hbw : Below v.heap.size v (v.alloc (.cells #[.slice a0 m c0, .slice a1 n c1] 92)) := (Below.refl _ _).alloc (Nat.le_refl _) _
              have hN := heap_alloc_new v (.cells #[.slice a0 m c0, .slice a1 n c1] 92)
              replace hgs := hgs.step hbw
              replace hg1 := hg1.step hbw (by have := hg1.bel.size; omega)
              clear hbw
              generalize hbn : v.heap.size = bn at hN ⊢
              clear hbn
              generalize World.alloc v (.cells #[.slice a0 m c0, .slice a1 n c1] 92) = v at hgs hg1 hN ⊢
              refine hK.out _ _ trivial (fun _ => ?_)
              clear hK K
              refine wpAnyH_ready (rs := [7]) (by kernel_rfl) (by simp) (AllReadyH.cons rfl (fun K hK => ?_) AllReadyH.nil)
              rw [if_pos (by rfl)]
              have hown2 : v.ownsRow w.heap.size 92 2 (.slice ga g gc) g (gs.flatMap Gr.cells) := by have := hgs.own; unfold Owns at this; rw [hgs.len] at this; exact this
              refine wp_append_own _ _ _ _ rfl w.heap.size 92 j0 (.agg #[.slice none 0 0, .slice none 0 0]) 2 48 Try.underlying26 hj hy0 hy1 hy2 rfl (by decide) (.slice ga g gc) g _ rfl hown2 ⟨bn, 0, none⟩ 1 1 [.slice a0 m c0, .slice a1 n c1] rfl rfl ?c1 ?c2 ?c3 ?c4 hgs.gb.size ?_
              case c1 =>
                intro j e hj
                match j, hj with
                | 0, hj => simp at hj; subst hj; rw [Tab.add_zero, cell_of_row _ _ _ _ _ _ hN]; rfl
                | 1, hj => simp at hj; subst hj; rw [Tab.add_one, cell_of_row _ _ _ _ _ _ hN]; rfl
              case c2 => intro e he; simp at he; rcases he with rfl | rfl <;> rfl
              case c3 => unfold maxLen; omega
              case c4 => omega
              intro v' w5 hown' hgrow hnil'
              have hx : RowI v ⟨a0, c0⟩ (seg p m) ∧ RowI v ⟨a1, c1⟩ (seg (p + m) n) := by
                obtain ⟨s0, e0, r0⟩ := own_row hg1.own
                obtain ⟨s1, e1, r1⟩ := own_row hg1.own1
                simp only [Value.slice.injEq] at e0 e1
                obtain ⟨s0a, s0c⟩ := s0
                obtain ⟨s1a, s1c⟩ := s1
                obtain ⟨rfl, _, rfl⟩ := e0
                obtain ⟨rfl, _, rfl⟩ := e1
                exact ⟨r0, r1⟩
              obtain ⟨hbx, a', c', rfl, hG⟩ := hgs.put ⟨seg p m, seg (p + m) n, ⟨a0, c0⟩, ⟨a1, c1⟩⟩ hx hgrow hc (by rw [show (Gr.mk (seg p m) (seg (p + m) n) ⟨a0, c0⟩ ⟨a1, c1⟩).cells = [.slice a0 m c0, .slice a1 n c1] from by simp [Gr.cells, Sl.val, seg_len]]; exact hown')
              have c104 : w5.cell? ⟨tb, 104, none⟩ = some (.slice ga g gc) := by rw [cell_of_row _ _ _ _ _ _ hbx]; simp [hc]
              have f104 : w5.frozen? ⟨tb, 104, none⟩ = false := frozen_of_row _ _ _ _ _ hbx
              have HG := Lib.hid hG
              clear hown' hgrow hown2 hnil' hbx hG hgs hg1 hN hx
              refine hK.out _ _ trivial (fun _ => ?_)
              clear hK K
              refine Held.take (i := 8) (some 75) rfl (v := ?_) rfl (by kernel_rfl) (by kernel_rfl) (by kernel_rfl) (fun _ _ _ h => h) (Or.inl ⟨by rfl, ?_⟩) hS ?_
              rotate_left
              · intro w' hw'
                go_simp
                try with_reducible rfl
              (try dsimp only [Act.put]); (try simp only [List.setIfInBounds_toArray, List.set_cons_zero, List.set_cons_succ])
              refine Held.take (i := 9) (some 76) rfl (v := ?_) rfl (by kernel_rfl) (by kernel_rfl) (by kernel_rfl) (fun _ _ _ h => h) (Or.inl ⟨by rfl, ?_⟩) hS ?_
              rotate_left
              · intro w' hw'
                go_simp
                try with_reducible rfl
              (try dsimp only [Act.put]); (try simp only [List.setIfInBounds_toArray, List.set_cons_zero, List.set_cons_succ])
              refine wpAnyH_ready (rs := [10]) (by kernel_rfl) (by simp) (AllReadyH.cons rfl (fun K hK => ?_) AllReadyH.nil)
              go_simp
              refine hK.out _ _ trivial (fun _ => ?_)
              clear hK K
              refine wpAnyH_done (by kernel_rfl) ?_ _
              have HE : Hid (upTo L G (g + 1) = ((upTo L G g).1 ++ [(seg p m, seg (p + m) n)], p + m + n)) := Lib.hid (by rw [UN.out, GD.out])
              have HD2 : Hid ((gs ++ [Gr.mk (seg p m) (seg (p + m) n) ⟨a0, c0⟩ ⟨a1, c1⟩]).map Gr.data = (upTo L G (g + 1)).1) := Lib.hid (by rw [List.map_append, HD.out, HE.out]; simp [Gr.data])
              have HP2 : Hid ((upTo L G (g + 1)).2 = p + m + n) := Lib.hid (by rw [HE.out])
              clear hS c104 f104
              go_wp2
              go_roundw
              case rel => exact ⟨g + 1, by omega, by go_num, by rw [HP2.out]; go_num, a', c', _, HD2.out, HG.out⟩
              case measure => simp [intOf]; omega
            · go_simp
              have hbw : Below v.heap.size v (v.alloc (.cells #[.slice a0 m c0, .slice a1 n c1] 92)) := (Below.refl _ _).alloc (Nat.le_refl _) _
              have hN := heap_alloc_new v (.cells #[.slice a0 m c0, .slice a1 n c1] 92)
              replace hgs := hgs.step hbw
              replace hg1 := hg1.step hbw (by have := hg1.bel.size; omega)
              clear hbw
              generalize hbn : v.heap.size = bn at hN ⊢
              clear hbn
              generalize World.alloc v (.cells #[.slice a0 m c0, .slice a1 n c1] 92) = v at hgs hg1 hN ⊢
              refine hK.out _ _ trivial (fun _ => ?_)
              clear hK K
              refine wpAnyH_ready (rs := [4]) (by kernel_rfl) (by simp) (AllReadyH.cons rfl (fun K hK => ?_) AllReadyH.nil)
              have c4 : v.cell? ⟨tb, 104, none⟩ = some (.slice ga g gc) := by rw [cell_of_row _ _ _ _ _ _ hgs.tbk]; simp [hc]
              go_simp
              refine hK.out _ _ trivial (fun _ => ?_)
              clear hK K c4
              refine wpAnyH_ready (rs := [7]) (by kernel_rfl) (by simp) (AllReadyH.cons rfl (fun K hK => ?_) AllReadyH.nil)
              rw [if_pos (by rfl)]
              have hown2 : v.ownsRow w.heap.size 92 2 (.slice ga g gc) g (gs.flatMap Gr.cells) := by have := hgs.own; unfold Owns at this; rw [hgs.len] at this; exact this
              refine wp_append_own _ _ _ _ rfl w.heap.size 92 j0 (.agg #[.slice none 0 0, .slice none 0 0]) 2 48 Try.underlying26 hj hy0 hy1 hy2 rfl (by decide) (.slice ga g gc) g _ rfl hown2 ⟨bn, 0, none⟩ 1 1 [.slice a0 m c0, .slice a1 n c1] rfl rfl ?c1 ?c2 ?c3 ?c4 hgs.gb.size ?_
              case c1 =>
                intro j e hj
                match j, hj with
                | 0, hj => simp at hj; subst hj; rw [Tab.add_zero, cell_of_row _ _ _ _ _ _ hN]; rfl
                | 1, hj => simp at hj; subst hj; rw [Tab.add_one, cell_of_row _ _ _ _ _ _ hN]; rfl
              case c2 => intro e he; simp at he; rcases he with rfl | rfl <;> rfl
              case c3 => unfold maxLen; omega
              case c4 => omega
              intro v' w5 hown' hgrow hnil'
              have hx : RowI v ⟨a0, c0⟩ (seg p m) ∧ RowI v ⟨a1, c1⟩ (seg (p + m) n) := by
                obtain ⟨s0, e0, r0⟩ := own_row hg1.own
                obtain ⟨s1, e1, r1⟩ := own_row hg1.own1
                simp only [Value.slice.injEq] at e0 e1
                obtain ⟨s0a, s0c⟩ := s0
                obtain ⟨s1a, s1c⟩ := s1
                obtain ⟨rfl, _, rfl⟩ := e0
                obtain ⟨rfl, _, rfl⟩ := e1
                exact ⟨r0, r1⟩
              obtain ⟨hbx, a', c', rfl, hG⟩ := hgs.put ⟨seg p m, seg (p + m) n, ⟨a0, c0⟩, ⟨a1, c1⟩⟩ hx hgrow hc (by rw [show (Gr.mk (seg p m) (seg (p + m) n) ⟨a0, c0⟩ ⟨a1, c1⟩).cells = [.slice a0 m c0, .slice a1 n c1] from by simp [Gr.cells, Sl.val, seg_len]]; exact hown')
              have c104 : w5.cell? ⟨tb, 104, none⟩ = some (.slice ga g gc) := by rw [cell_of_row _ _ _ _ _ _ hbx]; simp [hc]
              have f104 : w5.frozen? ⟨tb, 104, none⟩ = false := frozen_of_row _ _ _ _ _ hbx
              have HG := Lib.hid hG
              clear hown' hgrow hown2 hnil' hbx hG hgs hg1 hN hx
              refine hK.out _ _ trivial (fun _ => ?_)
              clear hK K
              refine Held.take (i := 8) (some 75) rfl (v := ?_) rfl (by kernel_rfl) (by kernel_rfl) (by kernel_rfl) (fun _ _ _ h => h) (Or.inl ⟨by rfl, ?_⟩) hS ?_
              rotate_left
              · intro w' hw'
                go_simp
                try with_reducible rfl
              (try dsimp only [Act.put]); (try simp only [List.setIfInBounds_toArray, List.set_cons_zero, List.set_cons_succ])
              refine Held.take (i := 9) (some 76) rfl (v := ?_) rfl (by kernel_rfl) (by kernel_rfl) (by kernel_rfl) (fun _ _ _ h => h) (Or.inl ⟨by rfl, ?_⟩) hS ?_
              rotate_left
              · intro w' hw'
                go_simp
                try with_reducible rfl
              (try dsimp only [Act.put]); (try simp only [List.setIfInBounds_toArray, List.set_cons_zero, List.set_cons_succ])
              refine wpAnyH_ready (rs := [10]) (by kernel_rfl) (by simp) (AllReadyH.cons rfl (fun K hK => ?_) AllReadyH.nil)
              go_simp
              refine hK.out _ _ trivial (fun _ => ?_)
              clear hK K
              refine wpAnyH_done (by kernel_rfl) ?_ _
              have HE : Hid (upTo L G (g + 1) = ((upTo L G g).1 ++ [(seg p m, seg (p + m) n)], p + m + n)) := Lib.hid (by rw [UN.out, GD.out])
              have HD2 : Hid ((gs ++ [Gr.mk (seg p m) (seg (p + m) n) ⟨a0, c0⟩ ⟨a1, c1⟩]).map Gr.data = (upTo L G (g + 1)).1) := Lib.hid (by rw [List.map_append, HD.out, HE.out]; simp [Gr.data])
              have HP2 : Hid ((upTo L G (g + 1)).2 = p + m + n) := Lib.hid (by rw [HE.out])
              clear hS c104 f104
              go_wp2
              go_roundw
              case rel => exact ⟨g + 1, by omega, by go_num, by rw [HP2.out]; go_num, a', c', _, HD2.out, HG.out⟩
              case measure => simp [intOf]; omega
    · have hge : g = G := by omega
      subst hge
      have HN : Hid ((upTo L g g).2 = rn) := Lib.hid N0.out.symm
      have HDD : Hid (gs.map Gr.data = rg) := Lib.hid (by rw [HD.out, D0.out])
      rw [HN.out]
      clear hlt
      go_wp2
      go_ret
      exact ⟨ga, gc, gs, rfl, HDD.out, HS.out⟩
end GenG
namespace GenT
open Go.ChangeShapes Go.WideShapes Go.ChangeAt Go.RowKit
open Tab Gath GenG Clone PlaceM CodeAt
open RefS (num num_range from_any)
theorem Bx.store_ph {w W : World} {hd : Hd} {T : Tab} (h : Bx w hd T W) (p : Nat) (hp : p < 8) (x : Ph) :
    ∃ W', Sem.run Try.prog (storeCells ⟨w.heap.size + 1, p * 13, none⟩ x.cells) W = .ok () W' ∧ Bx w hd { T with phases := T.phases.set p x } W' := by
  have hl := cells_cut hd h.ph h.cf h.fl
  have hr := run_storeCells_at Try.prog (w.heap.size + 1) (p * 13) 32 x.cells 0 (T.cells hd).toArray W h.blk (by simp [hl, Ph.cells]; omega) (fun v hv => (Array.all_eq_true_iff_forall_mem.1 (Ph.one x)) v (by simpa using hv))
  simp only [Nat.add_zero] at hr
  refine ⟨_, hr, h.write (setRow_grown _ _ _ h.size) ?_ (by simp [h.ph]) h.cf h.fl rfl rfl rfl rfl⟩
  rw [setRow_heap _ _ _ _ _ _ h.blk, ← cells_phase hd h.ph p hp x, Nat.mul_comm 13 p]
  rfl
theorem loop_ph {Q : Exit → Act → World → Prop} (a : Option Addr) (cap : Nat) (L : List Int) (w W0 : World) (hd : Hd) (T : Tab) (n : Nat) (hn : n ≤ 8) {f1 f6 f7 f8 f9 f10 f11 f12 f13 f14 f15 f16 f17 f18 f19 f20 f21 f22 f23 f24 f25 f26 f27 f28 f29 f30 f31 f32 f33 f34 f35 f36 f37 f38 f39 f40 f41 f42 f43 f44 f45 f46 f47 f48 f49 f50 f51 f52 f53 f54 f55 f56 f57 f58 f59 f60 f61 f62 f63 f64 f65 f66 f67 f68 f69 f70 f71 f72 f73 f74 f75 f76 f77 f78 f79 f80 f81 f82 f83 f84 f85 f86 f87 f88 f89 f90 f91 f92 f93 f94 f95 f96 f97 f98 f99 f100 f101 f102 f103 f104 f105 f106 f107 f108 f109 f110 f111 f112 f113 f114 f115 f116 f117 f118 f119 f120 f121 f122 f123 f124 f125 f126 f127 f128 f129 f130 f131 f132 f133 f134 f135 f136 f137 f138 f139 f140 f141 f142 f143 f144 f145 f146 f147 f148 f149 f150 f151 f152 f153 f154 f155 f156 f157 f158 f159 f160 f161 f162 f163 f164 f165 f166 f167 f168 f169 f170 f171 f172 f173 f174 f175 f176 f177 f178 f179 f180 f181 f182 f183 f184 f185 : Value}
    (HL : Hid (∀ W, Below w.heap.size w W → IntRow W ⟨a, cap⟩ L)) (BX : Hid (Bx w hd { T with phases := upd (fun p => GenP.genPh L (10 + 12 * p)) zPh 0, flash := upd (fun _ => 1) 0 0 } W0))
    (HP : ∀ c a d v w, Q (.panic c) (a.put d v) w → Q (.panic c) a w) (HQ : Hid (∀ (x5 x15 x16 x17 x18 x19 x20 x21 x22 x23 x24 x25 x26 x27 x28 x29 x30 : Value) (W' : World), Bx w hd { T with phases := upd (fun p => GenP.genPh L (10 + 12 * p)) zPh n, flash := upd (fun _ => 1) 0 n } W' → Q (.exit 0) ⟨#[Value.slice a L.length cap, f1, Value.pointer (some ⟨w.heap.size, 0, none⟩), Value.pointer (some ⟨w.heap.size + 1, 0, none⟩), Value.int .i64 (n : Nat), x5, f6, f7, f8, f9, f10, f11, f12, f13, f14, x15, x16, x17, x18, x19, x20, x21, x22, x23, x24, x25, x26, x27, x28, x29, x30, f31, f32, f33, f34, f35, f36, f37, f38, f39, f40, f41, f42, f43, f44, f45, f46, f47, f48, f49, f50, f51, f52, f53, f54, f55, f56, f57, f58, f59, f60, f61, f62, f63, f64, f65, f66, f67, f68, f69, f70, f71, f72, f73, f74, f75, f76, f77, f78, f79, f80, f81, f82, f83, f84, f85, f86, f87, f88, f89, f90, f91, f92, f93, f94, f95, f96, f97, f98, f99, f100, f101, f102, f103, f104, f105, f106, f107, f108, f109, f110, f111, f112, f113, f114, f115, f116, f117, f118, f119, f120, f121, f122, f123, f124, f125, f126, f127, f128, f129, f130, f131, f132, f133, f134, f135, f136, f137, f138, f139, f140, f141, f142, f143, f144, f145, f146, f147, f148, f149, f150, f151, f152, f153, f154, f155, f156, f157, f158, f159, f160, f161, f162, f163, f164, f165, f166, f167, f168, f169, f170, f171, f172, f173, f174, f175, f176, f177, f178, f179, f180, f181, f182, f183, f184, f185], []⟩ W')) :
    (lp 4 Try.f7).wp Try.prog Q ⟨#[Value.slice a L.length cap, f1, Value.pointer (some ⟨w.heap.size, 0, none⟩), Value.pointer (some ⟨w.heap.size + 1, 0, none⟩), Value.int .i64 (n : Nat), Value.int .i64 0, f6, f7, f8, f9, f10, f11, f12, f13, f14, f15, f16, f17, f18, f19, f20, f21, f22, f23, f24, f25, f26, f27, f28, f29, f30, f31, f32, f33, f34, f35, f36, f37, f38, f39, f40, f41, f42, f43, f44, f45, f46, f47, f48, f49, f50, f51, f52, f53, f54, f55, f56, f57, f58, f59, f60, f61, f62, f63, f64, f65, f66, f67, f68, f69, f70, f71, f72, f73, f74, f75, f76, f77, f78, f79, f80, f81, f82, f83, f84, f85, f86, f87, f88, f89, f90, f91, f92, f93, f94, f95, f96, f97, f98, f99, f100, f101, f102, f103, f104, f105, f106, f107, f108, f109, f110, f111, f112, f113, f114, f115, f116, f117, f118, f119, f120, f121, f122, f123, f124, f125, f126, f127, f128, f129, f130, f131, f132, f133, f134, f135, f136, f137, f138, f139, f140, f141, f142, f143, f144, f145, f146, f147, f148, f149, f150, f151, f152, f153, f154, f155, f156, f157, f158, f159, f160, f161, f162, f163, f164, f165, f166, f167, f168, f169, f170, f171, f172, f173, f174, f175, f176, f177, f178, f179, f180, f181, f182, f183, f184, f185], []⟩ W0 := by
  conv => arg 2; whnf
  dsimp only
  go_loopw [5] (fun i wr => ∃ q : Nat, q ≤ n ∧ i = .int .i64 q ∧ Bx w hd { T with phases := upd (fun p => GenP.genPh L (10 + 12 * p)) zPh q, flash := upd (fun _ => 1) 0 q } wr) (fun i _ => n - (intOf i).toNat)
  case atStart => exact ⟨0, by omega, rfl, BX.out⟩
  case round =>
    obtain ⟨q, hq, rfl, hbx⟩ := hrel
    have HB := Lib.hid hbx
    clear hbx BX
    by_cases hlt : q < n
    · go_wp2_with fail
      refine (GenP.phase_any a cap L _ _ (HL.out _ HB.out.bel) (by go_num) (by go_num)).mono ?_
      rintro e w2 ⟨rfl, hb⟩
      obtain ⟨w3, hst, hB3⟩ := (HB.out.step hb).store_ph q (by omega) (GenP.genPh L (10 + 12 * q))
      have HB3 := Lib.hid hB3
      clear hb hB3 HB
      go_upto_region 7 with fail
      have e1 : (upd (fun p => GenP.genPh L (10 + 12 * p)) zPh q).set q (GenP.genPh L (10 + 12 * q)) = upd (fun p => GenP.genPh L (10 + 12 * p)) zPh (q + 1) := upd_succ _ _ _
      have e2 : (upd (fun _ => (1 : Int)) 0 q).set q 1 = upd (fun _ => 1) 0 (q + 1) := upd_succ _ _ _
      have hs := HB3.out.set (121 + q) (I 1) (cells_flash hd HB3.out.ph HB3.out.cf HB3.out.fl q (by omega) 1) HB3.out.ph HB3.out.cf (by simp [upd_len]) rfl rfl rfl rfl
      have c7 : w3.cell? ⟨w.heap.size + 1, 121 + q, none⟩ = some (I 0) := by
        have h1 := (range_of HB3.out.blk 121 8 _ (cells_ok HB3.out.tab).flash) q _ (by rw [List.getElem?_map, upd_at _ _ _ _ (by omega), if_neg (by omega)]; rfl)
        exact h1
      have f7 := HB3.out.frozen (121 + q)
      dsimp only at hs
      rw [e1, e2] at hs
      have HS := Lib.hid hs
      clear hs e1 e2 HB3
      go_wp2
      go_roundw
      case rel => exact ⟨q + 1, by omega, by go_num, HS.out⟩
      case measure => simp [intOf]; omega
    · have hqe : q = n := by omega
      subst hqe
      go_wp2
      exact HQ.out _ _ _ _ _ _ _ _ _ _ _ _ _ _ _ _ _ _ HB.out
end GenT
namespace GenT
open Go.ChangeShapes Go.WideShapes Go.ChangeAt Go.RowKit
open Tab Gath GenG Clone PlaceM CodeAt
open RefS (num num_range from_any)
theorem loop_cf {Q : Exit → Act → World → Prop} (a : Option Addr) (cap : Nat) (L : List Int) (w W0 : World) (hd : Hd) (T : Tab) (n : Nat) (hn : n ≤ 8) (sm : Few T) {f1 f5 f7 f8 f9 f10 f11 f12 f13 f14 f15 f16 f17 f18 f19 f20 f21 f22 f23 f24 f25 f26 f27 f28 f29 f30 f31 f32 f33 f34 f35 f36 f37 f38 f39 f40 f41 f42 f43 f44 f45 f46 f47 f48 f49 f50 f51 f52 f53 f54 f55 f56 f57 f58 f59 f60 f61 f62 f63 f64 f65 f66 f67 f68 f69 f70 f71 f72 f73 f74 f75 f76 f77 f78 f79 f80 f81 f82 f83 f84 f85 f86 f87 f88 f89 f90 f91 f92 f93 f94 f95 f96 f97 f98 f99 f100 f101 f102 f103 f104 f105 f106 f107 f108 f109 f110 f111 f112 f113 f114 f115 f116 f117 f118 f119 f120 f121 f122 f123 f124 f125 f126 f127 f128 f129 f130 f131 f132 f133 f134 f135 f136 f137 f138 f139 f140 f141 f142 f143 f144 f145 f146 f147 f148 f149 f150 f151 f152 f153 f154 f155 f156 f157 f158 f159 f160 f161 f162 f163 f164 f165 f166 f167 f168 f169 f170 f171 f172 f173 f174 f175 f176 f177 f178 f179 f180 f181 f182 f183 f184 f185 : Value}
    (HL : Hid (∀ W, Below w.heap.size w W → IntRow W ⟨a, cap⟩ L)) (BX : Hid (Bx w hd T W0))
    (HP : ∀ c a d v w, Q (.panic c) (a.put d v) w → Q (.panic c) a w) (HQ : Hid (∀ (x6 x7 x31 x32 x33 x34 x35 x36 x37 x38 x39 x40 x41 x42 x43 x44 x45 x46 x47 x48 x49 x50 x51 x52 x53 x54 x55 x56 x57 x58 x59 x60 x61 x62 x63 x64 x65 x66 x67 x68 x69 x70 x71 x72 x73 : Value) (W' : World), Bx w hd { T with conflict := call L T T.conflict n } W' → Q (.exit 2) ⟨#[Value.slice a L.length cap, f1, Value.pointer (some ⟨w.heap.size, 0, none⟩), Value.pointer (some ⟨w.heap.size + 1, 0, none⟩), Value.int .i64 (n : Nat), f5, x6, x7, f8, f9, f10, f11, f12, f13, f14, f15, f16, f17, f18, f19, f20, f21, f22, f23, f24, f25, f26, f27, f28, f29, f30, x31, x32, x33, x34, x35, x36, x37, x38, x39, x40, x41, x42, x43, x44, x45, x46, x47, x48, x49, x50, x51, x52, x53, x54, x55, x56, x57, x58, x59, x60, x61, x62, x63, x64, x65, x66, x67, x68, x69, x70, x71, x72, x73, f74, f75, f76, f77, f78, f79, f80, f81, f82, f83, f84, f85, f86, f87, f88, f89, f90, f91, f92, f93, f94, f95, f96, f97, f98, f99, f100, f101, f102, f103, f104, f105, f106, f107, f108, f109, f110, f111, f112, f113, f114, f115, f116, f117, f118, f119, f120, f121, f122, f123, f124, f125, f126, f127, f128, f129, f130, f131, f132, f133, f134, f135, f136, f137, f138, f139, f140, f141, f142, f143, f144, f145, f146, f147, f148, f149, f150, f151, f152, f153, f154, f155, f156, f157, f158, f159, f160, f161, f162, f163, f164, f165, f166, f167, f168, f169, f170, f171, f172, f173, f174, f175, f176, f177, f178, f179, f180, f181, f182, f183, f184, f185], []⟩ W')) :
    (lp 9 Try.f7).wp Try.prog Q ⟨#[Value.slice a L.length cap, f1, Value.pointer (some ⟨w.heap.size, 0, none⟩), Value.pointer (some ⟨w.heap.size + 1, 0, none⟩), Value.int .i64 (n : Nat), f5, Value.int .i64 0, f7, f8, f9, f10, f11, f12, f13, f14, f15, f16, f17, f18, f19, f20, f21, f22, f23, f24, f25, f26, f27, f28, f29, f30, f31, f32, f33, f34, f35, f36, f37, f38, f39, f40, f41, f42, f43, f44, f45, f46, f47, f48, f49, f50, f51, f52, f53, f54, f55, f56, f57, f58, f59, f60, f61, f62, f63, f64, f65, f66, f67, f68, f69, f70, f71, f72, f73, f74, f75, f76, f77, f78, f79, f80, f81, f82, f83, f84, f85, f86, f87, f88, f89, f90, f91, f92, f93, f94, f95, f96, f97, f98, f99, f100, f101, f102, f103, f104, f105, f106, f107, f108, f109, f110, f111, f112, f113, f114, f115, f116, f117, f118, f119, f120, f121, f122, f123, f124, f125, f126, f127, f128, f129, f130, f131, f132, f133, f134, f135, f136, f137, f138, f139, f140, f141, f142, f143, f144, f145, f146, f147, f148, f149, f150, f151, f152, f153, f154, f155, f156, f157, f158, f159, f160, f161, f162, f163, f164, f165, f166, f167, f168, f169, f170, f171, f172, f173, f174, f175, f176, f177, f178, f179, f180, f181, f182, f183, f184, f185], []⟩ W0 := by
  conv => arg 2; whnf
  dsimp only
  have BS : Hid (∀ (C : List Int) p q, PlaceM.beside { T with conflict := C } p q = PlaceM.beside T p q) := Lib.hid (fun C p q => beside_same rfl p q)
  have CL : Hid (∀ C p, (call L T C p).length = C.length) := Lib.hid (call_len L T)
  have RL : Hid (∀ C p q, (crow L T p C q).length = C.length) := Lib.hid (fun C p q => crow_len L T p C q)
  have SMC : Hid (∀ C : List Int, Few { T with conflict := C }) := Lib.hid (fun C => ⟨sm.groups, sm.rows⟩)
  have C8 := Lib.hid BX.out.cf
  generalize hC0 : T.conflict = C0 at *
  have BX0 : Hid (Bx w hd { T with conflict := call L T C0 0 } W0) := Lib.hid (by have := BX.out; rw [← hC0]; exact this)
  clear BX hC0
  go_loopw [6] (fun i wr => ∃ p : Nat, p ≤ n ∧ i = .int .i64 p ∧ Bx w hd { T with conflict := call L T C0 p } wr) (fun i _ => n - (intOf i).toNat)
  case atStart => exact ⟨0, by omega, rfl, BX0.out⟩
  case round =>
    obtain ⟨p, hp, rfl, hbx⟩ := hrel
    have HB := Lib.hid hbx
    clear hbx BX0
    by_cases hlt : p < n
    · have HB2 : Hid (Bx w hd { T with conflict := crow L T p (call L T C0 p) 0 } wr) := HB
      have L8 : Hid ((call L T C0 p).length = 8) := Lib.hid (by rw [CL.out, C8.out])
      have NX : Hid (call L T C0 (p + 1) = crow L T p (call L T C0 p) p) := Lib.hid rfl
      generalize call L T C0 p = C1 at *
      clear HB
      go_wp2_with fail
      go_loopw [7] (fun i wr => ∃ q : Nat, q ≤ p ∧ i = .int .i64 q ∧ Bx w hd { T with conflict := crow L T p C1 q } wr) (fun i _ => p - (intOf i).toNat)
      case atStart => exact ⟨0, by omega, rfl, HB2.out⟩
      case round =>
        obtain ⟨q, hq, rfl, hbx⟩ := hrel
        have HB := Lib.hid hbx
        clear hbx HB2
        by_cases hlt2 : q < p
        · have LC : Hid ((crow L T p C1 q).length = 8) := Lib.hid (by rw [RL.out, L8.out])
          have NC : Hid (crow L T p C1 (q + 1) = cset L T p q (crow L T p C1 q)) := Lib.hid rfl
          generalize crow L T p C1 q = C at *
          have CSet : Hid (cset L T p q C = if PlaceM.beside T p q = false ∧ num L (110 + 8 * p + q) 9 ≠ 1 then (C.set p (SetM.withN (C.getD p 0) q : Nat)).set q (SetM.withN ((C.set p (SetM.withN (C.getD p 0) q : Nat)).getD q 0) p : Nat) else C) := Lib.hid rfl
          generalize cset L T p q C = CN at *
          have BC : Hid (∀ W, Below wr.heap.size wr W → Calls Try.prog 17 #[.agg ({ T with conflict := C }.cells hd).toArray, .int .i64 p, .int .i64 q] W fun e w' => e = .returned (.bool (PlaceM.beside T p q)) ∧ Below W.heap.size W w') := Lib.hid (fun W hb => by
            have := Where.beside_any { T with conflict := C } hd p q W (HB.out.step hb).tab (SMC.out C)
            rw [BS.out] at this; exact this)
          have FC : Hid (∀ i W, i = 110 + 8 * (p : Int) + q → Below w.heap.size w W → Calls Try.prog 27 #[.slice a L.length cap, .int .i64 i, .int .i64 9] W fun e w' => e = .returned (.int .i64 (num L (110 + 8 * p + q) 9)) ∧ W = w') := Lib.hid (fun i W hi hb => from_at a cap L i _ 9 hi W (HL.out W hb) (by omega) (by omega) (by omega))
          have LT : Hid (Lies wr ⟨w.heap.size + 1, 0, none⟩ ({ T with conflict := C }.cells hd)) := Lib.hid (by have := Row.lies_of_block HB.out.blk; simpa using this)
          have IA : Hid ((Try.prog.info? 32).map (·.size) = some ({ T with conflict := C }.cells hd).length) := Lib.hid (by rw [cells_cut hd HB.out.ph HB.out.cf HB.out.fl]; exact May.infoT)
          generalize hcs : ({ T with conflict := C } : Tab).cells hd = cs at LT IA BC
          go_upto_region 14 with fail
          go_wp2_with (refine Row.wpList_load_g 32 _ rfl (by first | rfl | go_simp) ⟨w.heap.size + 1, 0, none⟩ rfl cs _ LT.out Try.underlying32 rfl IA.out ?_)
          refine (BC.out _ (Below.refl _ _)).mono ?_
          rintro e w2 ⟨rfl, hb⟩
          have HB2 := Lib.hid (HB.out.step hb)
          clear hb LT IA BC hcs HB
          generalize PlaceM.beside T p q = bb at *
          cases bb with
          | true =>
            have HE : Hid (CN = C) := Lib.hid (by rw [CSet.out]; simp)
            go_wp2
            go_roundw
            case rel => exact ⟨q + 1, by omega, by go_num, by rw [NC.out, HE.out]; exact HB2.out⟩
            case measure => simp [intOf]; omega
          | false =>
            go_wp2_with fail
            refine (FC.out _ _ (by go_num) HB2.out.bel).mono ?_
            rintro e w' ⟨rfl, rfl⟩
            generalize num L (110 + 8 * p + q) 9 = x at *
            by_cases hx : x = 1
            · have HE : Hid (CN = C) := Lib.hid (by rw [CSet.out]; simp [hx])
              subst hx
              go_wp2
              go_roundw
              case rel => exact ⟨q + 1, by omega, by go_num, by rw [NC.out, HE.out]; exact HB2.out⟩
              case measure => simp [intOf]; omega
            · have HE : Hid (CN = (C.set p (SetM.withN (C.getD p 0) q : Nat)).set q (SetM.withN ((C.set p (SetM.withN (C.getD p 0) q : Nat)).getD q 0) p : Nat)) := Lib.hid (by rw [CSet.out]; simp [hx])
              have hxb : (x != 1) = true := by simpa using hx
              clear CSet FC
              have CC : Hid (∀ (D : List Int) j v W, v = D.getD j 0 → j < 8 → D.length = 8 → Bx w hd { T with conflict := D } W → W.cell? ⟨w.heap.size + 1, 105 + j, none⟩ = some (I v) ∧ W.frozen? ⟨w.heap.size + 1, 105 + j, none⟩ = false) := Lib.hid (fun D j v W hv hj h8 hb => ⟨hv ▸ (range_of hb.blk 105 8 _ (cells_ok hb.tab).conflict) j _ (by rw [List.getElem?_map, List.getD_eq_getElem?_getD, List.getElem?_eq_getElem (show j < D.length by omega)]; rfl), hb.frozen _⟩)
              have ST : Hid (∀ (D : List Int) j x W, j < 8 → D.length = 8 → Bx w hd { T with conflict := D } W → Bx w hd { T with conflict := D.set j x } (W.setCell ⟨w.heap.size + 1, 105 + j, none⟩ (I x))) := Lib.hid (fun D j x W hj h8 hb => hb.set (105 + j) (I x) (cells_conflict hd hb.ph hb.cf j hj x) hb.ph (by simp [h8]) hb.fl rfl rfl rfl rfl)
              generalize hv1 : C.getD p 0 = v1 at HE
              have HV1 := Lib.hid hv1.symm
              clear hv1
              obtain ⟨c1, f1'⟩ := CC.out C p v1 _ HV1.out (by omega) LC.out HB2.out
              go_upto_region 15 with fail
              clear hxb hx
              go_wp2_with fail
              refine (RefS.rwith_any _ _ _).mono ?_
              rintro e w3 ⟨rfl, hb⟩
              have HB3 := Lib.hid (HB2.out.step hb)
              clear hb HB2 c1 f1'
              obtain ⟨c1, f1'⟩ := CC.out C p v1 _ HV1.out (by omega) LC.out HB3.out
              generalize hX1 : ((SetM.withN v1 q : Nat) : Int) = X1 at *
              clear hX1
              have HB4 := Lib.hid (ST.out C p X1 _ (by omega) LC.out HB3.out)
              have LC2 : Hid ((C.set p X1).length = 8) := Lib.hid (by rw [List.length_set, LC.out])
              clear HB3
              go_upto_region 16 with fail
              generalize C.set p X1 = C2 at *
              generalize hv2 : C2.getD q 0 = v2 at HE
              have HV2 := Lib.hid hv2.symm
              clear hv2
              generalize w3.setCell ⟨w.heap.size + 1, 105 + p, none⟩ (I X1) = w4 at HB4 ⊢
              clear c1 f1'
              obtain ⟨c1, f1'⟩ := CC.out C2 q v2 _ HV2.out (by omega) LC2.out HB4.out
              go_wp2_with fail
              refine (RefS.rwith_any _ _ _).mono ?_
              rintro e w5 ⟨rfl, hb⟩
              have HB5 := Lib.hid (HB4.out.step hb)
              clear hb HB4 c1 f1'
              obtain ⟨c1, f1'⟩ := CC.out C2 q v2 _ HV2.out (by omega) LC2.out HB5.out
              generalize hX2 : ((SetM.withN v2 p : Nat) : Int) = X2 at *
              clear hX2
              have HB6 := Lib.hid (ST.out C2 q X2 _ (by omega) LC2.out HB5.out)
              clear HB5 CC ST
              go_wp2
              go_roundw
              case rel => exact ⟨q + 1, by omega, by go_num, by rw [NC.out, HE.out]; exact HB6.out⟩
              case measure => simp [intOf]; omega
        · have hqe : q = p := by omega
          subst hqe
          go_wp2
          go_roundw
          case rel => exact ⟨q + 1, by omega, by go_num, by rw [NX.out]; exact HB.out⟩
          case measure => simp [intOf]; omega
    · have hpe : p = n := by omega
      subst hpe
      go_wp2
      exact HQ.out _ _ _ _ _ _ _ _ _ _ _ _ _ _ _ _ _ _ _ _ _ _ _ _ _ _ _ _ _ _ _ _ _ _ _ _ _ _ _ _ _ _ _ _ _ _ HB.out
end GenT
namespace GenT
open Go.ChangeShapes Go.WideShapes Go.ChangeAt Go.RowKit
open Tab Gath GenG Clone PlaceM CodeAt
open RefS (num num_range from_any)
theorem infoDz3 : (Try.prog.info? 73).map (fun i => (i.zero, i.size, i.bytes)) = some (some (.agg #[I 0, F 0, F 0, F 0, F 0, I 0, I 0]), 7, 56) := by kernel_rfl
theorem loop_dets {Q : Exit → Act → World → Prop} (a : Option Addr) (cap : Nat) (L : List Int) (w W0 : World) (hd : Hd) (T : Tab) (n : Nat) (hn : n ≤ 8) (n0 : 0 < n) (k : Nat) (hk : k ≤ 20) {f1 f5 f6 f7 f8 f10 f11 f12 f13 f14 f15 f16 f17 f18 f19 f20 f21 f22 f23 f24 f25 f26 f27 f28 f29 f30 f31 f32 f33 f34 f35 f36 f37 f38 f39 f40 f41 f42 f43 f44 f45 f46 f47 f48 f49 f50 f51 f52 f53 f54 f55 f56 f57 f58 f59 f60 f61 f62 f63 f64 f65 f66 f67 f68 f69 f70 f71 f72 f73 f74 f75 f76 f77 f78 f79 f80 f81 f82 f83 f84 f85 f86 f87 f88 f89 f90 f91 f92 f93 f94 f95 f96 f97 f98 f99 f100 f101 f102 f103 f104 f105 f106 f107 f108 f109 f110 f111 f112 f113 f114 f115 f116 f117 f118 f119 f120 f121 f122 f123 f124 f125 f126 f127 f128 f129 f130 f131 f132 f133 f134 f135 f136 f137 f138 f139 f140 f141 f142 f143 f144 f145 f146 f147 f148 f149 f150 f151 f152 f153 f154 f155 f156 f157 f158 f159 f160 f161 f162 f163 f164 f165 f166 f167 f168 f169 f170 f171 f172 f173 f174 f175 f176 f177 f178 f179 f180 f181 f182 f183 f184 f185 : Value}
    (HL : Hid (∀ W, Below w.heap.size w W → IntRow W ⟨a, cap⟩ L)) (s0 : Sl) (BX : Hid (Bx w ⟨hd.g, s0, hd.r, hd.b⟩ { T with dets := [] } W0))
    (HP : ∀ c a d v w, Q (.panic c) (a.put d v) w → Q (.panic c) a w) (HQ : Hid (∀ (x9 x86 x87 x88 x89 x90 x91 x92 x93 x94 x95 x96 x97 x98 x99 x100 : Value) (W' : World) (s1 : Sl), Bx w ⟨hd.g, s1, hd.r, hd.b⟩ { T with dets := down (fun i : Nat => GenD.genDet L (180 + 8 * i) n) k k } W' → Q (.exit 6) ⟨#[Value.slice a L.length cap, f1, Value.pointer (some ⟨w.heap.size, 0, none⟩), Value.pointer (some ⟨w.heap.size + 1, 0, none⟩), Value.int .i64 (n : Nat), f5, f6, f7, f8, x9, f10, f11, f12, f13, f14, f15, f16, f17, f18, f19, f20, f21, f22, f23, f24, f25, f26, f27, f28, f29, f30, f31, f32, f33, f34, f35, f36, f37, f38, f39, f40, f41, f42, f43, f44, f45, f46, f47, f48, f49, f50, f51, f52, f53, f54, f55, f56, f57, f58, f59, f60, f61, f62, f63, f64, f65, f66, f67, f68, f69, f70, f71, f72, f73, f74, f75, f76, f77, f78, f79, f80, f81, f82, f83, f84, f85, x86, x87, x88, x89, x90, x91, x92, x93, x94, x95, x96, x97, x98, x99, x100, f101, f102, f103, f104, f105, f106, f107, f108, f109, f110, f111, f112, f113, f114, f115, f116, f117, f118, f119, f120, f121, f122, f123, f124, f125, f126, f127, f128, f129, f130, f131, f132, f133, f134, f135, f136, f137, f138, f139, f140, f141, f142, f143, f144, f145, f146, f147, f148, f149, f150, f151, f152, f153, f154, f155, f156, f157, f158, f159, f160, f161, f162, f163, f164, f165, f166, f167, f168, f169, f170, f171, f172, f173, f174, f175, f176, f177, f178, f179, f180, f181, f182, f183, f184, f185], []⟩ W')) :
    (lp 21 Try.f7).wp Try.prog Q ⟨#[Value.slice a L.length cap, f1, Value.pointer (some ⟨w.heap.size, 0, none⟩), Value.pointer (some ⟨w.heap.size + 1, 0, none⟩), Value.int .i64 (n : Nat), f5, f6, f7, f8, Value.int .i64 (k : Nat), f10, f11, f12, f13, f14, f15, f16, f17, f18, f19, f20, f21, f22, f23, f24, f25, f26, f27, f28, f29, f30, f31, f32, f33, f34, f35, f36, f37, f38, f39, f40, f41, f42, f43, f44, f45, f46, f47, f48, f49, f50, f51, f52, f53, f54, f55, f56, f57, f58, f59, f60, f61, f62, f63, f64, f65, f66, f67, f68, f69, f70, f71, f72, f73, f74, f75, f76, f77, f78, f79, f80, f81, f82, f83, f84, f85, f86, f87, f88, f89, f90, f91, f92, f93, f94, f95, f96, f97, f98, f99, f100, f101, f102, f103, f104, f105, f106, f107, f108, f109, f110, f111, f112, f113, f114, f115, f116, f117, f118, f119, f120, f121, f122, f123, f124, f125, f126, f127, f128, f129, f130, f131, f132, f133, f134, f135, f136, f137, f138, f139, f140, f141, f142, f143, f144, f145, f146, f147, f148, f149, f150, f151, f152, f153, f154, f155, f156, f157, f158, f159, f160, f161, f162, f163, f164, f165, f166, f167, f168, f169, f170, f171, f172, f173, f174, f175, f176, f177, f178, f179, f180, f181, f182, f183, f184, f185], []⟩ W0 := by
  conv => arg 2; whnf
  dsimp only
  obtain ⟨j0, hj, hy0, hy1, hy2⟩ := info_parts infoDz3
  go_loopw [9] (fun i wr => ∃ j : Nat, j ≤ k ∧ i = .int .i64 (k - j : Nat) ∧ ∃ s, Bx w ⟨hd.g, s, hd.r, hd.b⟩ { T with dets := down (fun i : Nat => GenD.genDet L (180 + 8 * i) n) k j } wr) (fun i _ => (intOf i).toNat)
  case atStart => exact ⟨0, by omega, by go_num, s0, BX.out⟩
  case round =>
    obtain ⟨j, hjk, rfl, ⟨da, dc⟩, hbx⟩ := hrel
    have HB := Lib.hid hbx
    clear hbx BX
    by_cases hlt : j < k
    · obtain ⟨i, hi⟩ : ∃ i : Nat, i = k - j := ⟨_, rfl⟩
      have NX : Hid (down (fun i : Nat => GenD.genDet L (180 + 8 * i) n) k (j + 1) = down (fun i : Nat => GenD.genDet L (180 + 8 * i) n) k j ++ [(GenD.genDet L (180 + 8 * i) n)]) := Lib.hid (by rw [down, ← hi])
      have DL : Hid ((down (fun i : Nat => GenD.genDet L (180 + 8 * i) n) k j).length = j) := Lib.hid (down_len _ _ _)
      generalize down (fun i : Nat => GenD.genDet L (180 + 8 * i) n) k j = D at *
      have HI := Lib.hid hi
      have hi0 : 0 < i := by omega
      have hi9 : i ≤ 20 := by omega
      rw [← hi]
      clear hi
      have e1 : IntKind.i64.wrap (8 * (i : Int)) = 8 * i := by rw [IntKind.wrap_i64]; omega
      have e2 : IntKind.i64.wrap (180 + 8 * (i : Int)) = 180 + 8 * i := by rw [IntKind.wrap_i64]; omega
      go_upto_region 23 with fail
      refine wp_region_held (S := fun _ => True) (by kernel_rfl) ?_
      have hS : True := trivial
      have hb : Bx w ⟨hd.g, ⟨da, dc⟩, hd.r, hd.b⟩ { T with dets := D } { wr with drawn := wr.drawn + 1 } := HB.out.step (Below.refl _ _).drew
      generalize ({ wr with drawn := wr.drawn + 1 } : World) = v at hb ⊢
      clear HB
      refine Held.take (i := 0) (some 90) rfl (v := ?_) rfl (by kernel_rfl) (by kernel_rfl) (by kernel_rfl) (fun _ _ _ h => HP _ _ _ _ _ h) (Or.inl ⟨by rfl, ?_⟩) hS ?_
      rotate_left
      · intro w' hw'
        go_simp
        try with_reducible rfl
      (try dsimp only [Act.put]); (try simp only [List.setIfInBounds_toArray, List.set_cons_zero, List.set_cons_succ])
      refine Held.take (i := 2) (some 92) rfl (v := ?_) rfl (by kernel_rfl) (by kernel_rfl) (by kernel_rfl) (fun _ _ _ h => HP _ _ _ _ _ h) (Or.inl ⟨by rfl, ?_⟩) hS ?_
      rotate_left
      · intro w' hw'
        go_simp
        try with_reducible rfl
      (try dsimp only [Act.put]); (try simp only [List.setIfInBounds_toArray, List.set_cons_zero, List.set_cons_succ])
      refine Held.take (i := 3) (some 93) rfl (v := ?_) rfl (by kernel_rfl) (by kernel_rfl) (by kernel_rfl) (fun _ _ _ h => HP _ _ _ _ _ h) (Or.inl ⟨by rfl, ?_⟩) hS ?_
      rotate_left
      · intro w' hw'
        go_simp
        try with_reducible rfl
      (try dsimp only [Act.put]); (try simp only [List.setIfInBounds_toArray, List.set_cons_zero, List.set_cons_succ])
      refine Held.take (i := 4) (some 94) rfl (v := ?_) rfl (by kernel_rfl) (by kernel_rfl) (by kernel_rfl) (fun _ _ _ h => HP _ _ _ _ _ h) (Or.inl ⟨by rfl, ?_⟩) hS ?_
      rotate_left
      · intro w' hw'
        go_simp
        try with_reducible rfl
      (try dsimp only [Act.put]); (try simp only [List.setIfInBounds_toArray, List.set_cons_zero, List.set_cons_succ])
      refine Held.take (i := 5) (some 95) rfl (v := ?_) rfl (by kernel_rfl) (by kernel_rfl) (by kernel_rfl) (fun _ _ _ h => HP _ _ _ _ _ h) (Or.inl ⟨by rfl, ?_⟩) hS ?_
      rotate_left
      · intro w' hw'
        go_simp
        try with_reducible rfl
      (try dsimp only [Act.put]); (try simp only [List.setIfInBounds_toArray, List.set_cons_zero, List.set_cons_succ])
      refine Held.take (i := 6) (some 96) rfl (v := ?_) rfl (by kernel_rfl) (by kernel_rfl) (by kernel_rfl) (fun _ _ _ h => HP _ _ _ _ _ h) (Or.inl ⟨by rfl, ?_⟩) hS ?_
      rotate_left
      · intro w' hw'
        go_simp
        try with_reducible rfl
      (try dsimp only [Act.put]); (try simp only [List.setIfInBounds_toArray, List.set_cons_zero, List.set_cons_succ])
      refine wpAnyH_ready (rs := [1, 7]) (by kernel_rfl) (by simp) (AllReadyH.cons rfl (fun K hK => ?_) (AllReadyH.cons rfl (fun K hK => ?_) AllReadyH.nil))
      · have c4 : v.cell? ⟨w.heap.size + 1, 113, none⟩ = some (.slice da D.length dc) := by rw [hb.cell, ← List.getElem?_toArray]; exact (cells_ok hb.tab).d
        go_simp
        refine hK.out _ _ trivial (fun _ => ?_)
        clear hK K
        clear c4
        refine wpAnyH_ready (rs := [7]) (by kernel_rfl) (by simp) (AllReadyH.cons rfl (fun K hK => ?_) AllReadyH.nil)
        go_simp
        refine (GenD.detector_any a cap L _ _ _ (HL.out _ hb.bel) (by omega) (by omega) (by omega) (by omega)).mono ?_
        rintro e v2 ⟨rfl, hbb⟩
        replace hb := hb.step hbb
        clear hbb
        rename World => v
        generalize hX : (GenD.genDet L (180 + 8 * i) n) = X at NX ⊢
        clear hX
        rw [show X.cells.toArray = #[I X.phase, F X.on, F X.off, F X.delay, F X.extend, I X.maxOn, I X.maxOff] from rfl]
        go_simp
        refine hK.out _ _ trivial (fun _ => ?_)
        clear hK K
        refine wpAnyH_ready (rs := [8]) (by kernel_rfl) (by simp) (AllReadyH.cons rfl (fun K hK => ?_) AllReadyH.nil)
        go_simp
        have hbw : Below v.heap.size v (v.alloc (.cells #[I X.phase, F X.on, F X.off, F X.delay, F X.extend, I X.maxOn, I X.maxOff] 73)) := (Below.refl _ _).alloc (Nat.le_refl _) _
        have hN := heap_alloc_new v (.cells #[I X.phase, F X.on, F X.off, F X.delay, F X.extend, I X.maxOn, I X.maxOff] 73)
        replace hb := hb.step hbw
        clear hbw
        generalize hbn : v.heap.size = bn at hN ⊢
        clear hbn
        generalize World.alloc v (.cells #[I X.phase, F X.on, F X.off, F X.delay, F X.extend, I X.maxOn, I X.maxOff] 73) = v at hb hN ⊢
        refine hK.out _ _ trivial (fun _ => ?_)
        clear hK K
        refine wpAnyH_ready (rs := [9]) (by kernel_rfl) (by simp) (AllReadyH.cons rfl (fun K hK => ?_) AllReadyH.nil)
        rw [if_pos (by rfl)]
        have hown2 : v.ownsRow w.heap.size 73 7 (.slice da D.length dc) D.length (D.flatMap Det.cells) := hb.dets
        refine wp_append_own _ _ _ _ rfl w.heap.size 73 j0 (.agg #[I 0, F 0, F 0, F 0, F 0, I 0, I 0]) 7 56 Try.underlying28 hj hy0 hy1 hy2 rfl (by decide) (.slice da D.length dc) D.length _ rfl hown2 ⟨bn, 0, none⟩ 1 1 X.cells rfl rfl ?c1 ?c2 ?c3 ?c4 hb.bel.size ?_
        case c1 =>
          intro j e hj
          exact Row.lies_of_block hN j e hj
        case c2 => intro e he; have h1 := Det.one X; exact (Array.all_eq_true_iff_forall_mem.1 h1) e (by simpa using he)
        case c3 => unfold maxLen; have := DL.out; omega
        case c4 => have := DL.out; omega
        intro v' w5 hown' hgrow hnil'
        obtain ⟨hbk, a', c', rfl, hG⟩ := hb.put_dets X hgrow hown'
        have c5 : w5.cell? ⟨w.heap.size + 1, 113, none⟩ = some (.slice da D.length dc) := by rw [cell_of_row _ _ _ _ _ _ hbk]; exact (cells_ok hb.tab).d
        have f5 : w5.frozen? ⟨w.heap.size + 1, 113, none⟩ = false := frozen_of_row _ _ _ _ _ hbk
        have HG := Lib.hid hG
        clear hown' hgrow hown2 hnil' hbk hG hb hN
        refine hK.out _ _ trivial (fun _ => ?_)
        clear hK K
        refine Held.take (i := 10) (some 100) rfl (v := ?_) rfl (by kernel_rfl) (by kernel_rfl) (by kernel_rfl) (fun _ _ _ h => HP _ _ _ _ _ h) (Or.inl ⟨by rfl, ?_⟩) hS ?_
        rotate_left
        · intro w' hw'
          go_simp
          try with_reducible rfl
        (try dsimp only [Act.put]); (try simp only [List.setIfInBounds_toArray, List.set_cons_zero, List.set_cons_succ])
        refine wpAnyH_ready (rs := [11]) (by kernel_rfl) (by simp) (AllReadyH.cons rfl (fun K hK => ?_) AllReadyH.nil)
        go_simp
        refine hK.out _ _ trivial (fun _ => ?_)
        clear hK K
        refine wpAnyH_done (by kernel_rfl) ?_ _
        clear hS c5 f5
        go_wp2
        go_roundw
        case rel => exact ⟨j + 1, by omega, by have := HI.out; go_num, _, by rw [NX.out]; exact HG.out⟩
        case measure => simp [intOf]; have := HI.out; omega
      · go_simp
        refine (GenD.detector_any a cap L _ _ _ (HL.out _ hb.bel) (by omega) (by omega) (by omega) (by omega)).mono ?_
        rintro e v2 ⟨rfl, hbb⟩
        replace hb := hb.step hbb
        clear hbb
        rename World => v
        generalize hX : (GenD.genDet L (180 + 8 * i) n) = X at NX ⊢
        clear hX
        rw [show X.cells.toArray = #[I X.phase, F X.on, F X.off, F X.delay, F X.extend, I X.maxOn, I X.maxOff] from rfl]
        go_simp
        refine hK.out _ _ trivial (fun _ => ?_)
        clear hK K
        refine wpAnyH_ready (rs := [1, 8]) (by kernel_rfl) (by simp) (AllReadyH.cons rfl (fun K hK => ?_) (AllReadyH.cons rfl (fun K hK => ?_) AllReadyH.nil))
        · have c4 : v.cell? ⟨w.heap.size + 1, 113, none⟩ = some (.slice da D.length dc) := by rw [hb.cell, ← List.getElem?_toArray]; exact (cells_ok hb.tab).d
          go_simp
          refine hK.out _ _ trivial (fun _ => ?_)
          clear hK K
          clear c4
          refine wpAnyH_ready (rs := [8]) (by kernel_rfl) (by simp) (AllReadyH.cons rfl (fun K hK => ?_) AllReadyH.nil)
          go_simp
          have hbw : Below v.heap.size v (v.alloc (.cells #[I X.phase, F X.on, F X.off, F X.delay, F X.extend, I X.maxOn, I X.maxOff] 73)) := (Below.refl _ _).alloc (Nat.le_refl _) _
          have hN := heap_alloc_new v (.cells #[I X.phase, F X.on, F X.off, F X.delay, F X.extend, I X.maxOn, I X.maxOff] 73)
          replace hb := hb.step hbw
          clear hbw
          generalize hbn : v.heap.size = bn at hN ⊢
          clear hbn
          generalize World.alloc v (.cells #[I X.phase, F X.on, F X.off, F X.delay, F X.extend, I X.maxOn, I X.maxOff] 73) = v at hb hN ⊢
          refine hK.out _ _ trivial (fun _ => ?_)
          clear hK K
          refine wpAnyH_ready (rs := [9]) (by kernel_rfl) (by simp) (AllReadyH.cons rfl (fun K hK => ?_) AllReadyH.nil)
          rw [if_pos (by rfl)]
          have hown2 : v.ownsRow w.heap.size 73 7 (.slice da D.length dc) D.length (D.flatMap Det.cells) := hb.dets
          refine wp_append_own _ _ _ _ rfl w.heap.size 73 j0 (.agg #[I 0, F 0, F 0, F 0, F 0, I 0, I 0]) 7 56 Try.underlying28 hj hy0 hy1 hy2 rfl (by decide) (.slice da D.length dc) D.length _ rfl hown2 ⟨bn, 0, none⟩ 1 1 X.cells rfl rfl ?c1 ?c2 ?c3 ?c4 hb.bel.size ?_
          case c1 =>
            intro j e hj
            exact Row.lies_of_block hN j e hj
          case c2 => intro e he; have h1 := Det.one X; exact (Array.all_eq_true_iff_forall_mem.1 h1) e (by simpa using he)
          case c3 => unfold maxLen; have := DL.out; omega
          case c4 => have := DL.out; omega
          intro v' w5 hown' hgrow hnil'
          obtain ⟨hbk, a', c', rfl, hG⟩ := hb.put_dets X hgrow hown'
          have c5 : w5.cell? ⟨w.heap.size + 1, 113, none⟩ = some (.slice da D.length dc) := by rw [cell_of_row _ _ _ _ _ _ hbk]; exact (cells_ok hb.tab).d
          have f5 : w5.frozen? ⟨w.heap.size + 1, 113, none⟩ = false := frozen_of_row _ _ _ _ _ hbk
          have HG := Lib.hid hG
          clear hown' hgrow hown2 hnil' hbk hG hb hN
          refine hK.out _ _ trivial (fun _ => ?_)
          clear hK K
          refine Held.take (i := 10) (some 100) rfl (v := ?_) rfl (by kernel_rfl) (by kernel_rfl) (by kernel_rfl) (fun _ _ _ h => HP _ _ _ _ _ h) (Or.inl ⟨by rfl, ?_⟩) hS ?_
          rotate_left
          · intro w' hw'
            go_simp
            try with_reducible rfl
          (try dsimp only [Act.put]); (try simp only [List.setIfInBounds_toArray, List.set_cons_zero, List.set_cons_succ])
          refine wpAnyH_ready (rs := [11]) (by kernel_rfl) (by simp) (AllReadyH.cons rfl (fun K hK => ?_) AllReadyH.nil)
          go_simp
          refine hK.out _ _ trivial (fun _ => ?_)
          clear hK K
          refine wpAnyH_done (by kernel_rfl) ?_ _
          clear hS c5 f5
          go_wp2
          go_roundw
          case rel => exact ⟨j + 1, by omega, by have := HI.out; go_num, _, by rw [NX.out]; exact HG.out⟩
          case measure => simp [intOf]; have := HI.out; omega
        · go_simp
          have hbw : Below v.heap.size v (v.alloc (.cells #[I X.phase, F X.on, F X.off, F X.delay, F X.extend, I X.maxOn, I X.maxOff] 73)) := (Below.refl _ _).alloc (Nat.le_refl _) _
          have hN := heap_alloc_new v (.cells #[I X.phase, F X.on, F X.off, F X.delay, F X.extend, I X.maxOn, I X.maxOff] 73)
          replace hb := hb.step hbw
          clear hbw
          generalize hbn : v.heap.size = bn at hN ⊢
          clear hbn
          generalize World.alloc v (.cells #[I X.phase, F X.on, F X.off, F X.delay, F X.extend, I X.maxOn, I X.maxOff] 73) = v at hb hN ⊢
          refine hK.out _ _ trivial (fun _ => ?_)
          clear hK K
          refine wpAnyH_ready (rs := [1]) (by kernel_rfl) (by simp) (AllReadyH.cons rfl (fun K hK => ?_) AllReadyH.nil)
          have c4 : v.cell? ⟨w.heap.size + 1, 113, none⟩ = some (.slice da D.length dc) := by rw [hb.cell, ← List.getElem?_toArray]; exact (cells_ok hb.tab).d
          go_simp
          refine hK.out _ _ trivial (fun _ => ?_)
          clear hK K
          clear c4
          refine wpAnyH_ready (rs := [9]) (by kernel_rfl) (by simp) (AllReadyH.cons rfl (fun K hK => ?_) AllReadyH.nil)
          rw [if_pos (by rfl)]
          have hown2 : v.ownsRow w.heap.size 73 7 (.slice da D.length dc) D.length (D.flatMap Det.cells) := hb.dets
          refine wp_append_own _ _ _ _ rfl w.heap.size 73 j0 (.agg #[I 0, F 0, F 0, F 0, F 0, I 0, I 0]) 7 56 Try.underlying28 hj hy0 hy1 hy2 rfl (by decide) (.slice da D.length dc) D.length _ rfl hown2 ⟨bn, 0, none⟩ 1 1 X.cells rfl rfl ?c1 ?c2 ?c3 ?c4 hb.bel.size ?_
          case c1 =>
            intro j e hj
            exact Row.lies_of_block hN j e hj
          case c2 => intro e he; have h1 := Det.one X; exact (Array.all_eq_true_iff_forall_mem.1 h1) e (by simpa using he)
          case c3 => unfold maxLen; have := DL.out; omega
          case c4 => have := DL.out; omega
          intro v' w5 hown' hgrow hnil'
          obtain ⟨hbk, a', c', rfl, hG⟩ := hb.put_dets X hgrow hown'
          have c5 : w5.cell? ⟨w.heap.size + 1, 113, none⟩ = some (.slice da D.length dc) := by rw [cell_of_row _ _ _ _ _ _ hbk]; exact (cells_ok hb.tab).d
          have f5 : w5.frozen? ⟨w.heap.size + 1, 113, none⟩ = false := frozen_of_row _ _ _ _ _ hbk
          have HG := Lib.hid hG
          clear hown' hgrow hown2 hnil' hbk hG hb hN
          refine hK.out _ _ trivial (fun _ => ?_)
          clear hK K
          refine Held.take (i := 10) (some 100) rfl (v := ?_) rfl (by kernel_rfl) (by kernel_rfl) (by kernel_rfl) (fun _ _ _ h => HP _ _ _ _ _ h) (Or.inl ⟨by rfl, ?_⟩) hS ?_
          rotate_left
          · intro w' hw'
            go_simp
            try with_reducible rfl
          (try dsimp only [Act.put]); (try simp only [List.setIfInBounds_toArray, List.set_cons_zero, List.set_cons_succ])
          refine wpAnyH_ready (rs := [11]) (by kernel_rfl) (by simp) (AllReadyH.cons rfl (fun K hK => ?_) AllReadyH.nil)
          go_simp
          refine hK.out _ _ trivial (fun _ => ?_)
          clear hK K
          refine wpAnyH_done (by kernel_rfl) ?_ _
          clear hS c5 f5
          go_wp2
          go_roundw
          case rel => exact ⟨j + 1, by omega, by have := HI.out; go_num, _, by rw [NX.out]; exact HG.out⟩
          case measure => simp [intOf]; have := HI.out; omega
    · have hje : j = k := by omega
      subst hje
      rw [show ((j - j : Nat) : Int) = (0 : Int) by omega]
      go_wp2
      exact HQ.out _ _ _ _ _ _ _ _ _ _ _ _ _ _ _ _ _ _ HB.out
end GenT
end Go.Proofs.Ytjgpljnbeolapaa
