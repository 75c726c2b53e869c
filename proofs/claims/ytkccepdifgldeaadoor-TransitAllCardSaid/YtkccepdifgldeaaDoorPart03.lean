/- 42 texts in one file, in build order. -/
import Derived.Test.YtkccepdifgldeaaDoorPart02
import Derived.Test.YtkccepdifgldeaaDoorPart01
import Derived.Test.YtkccepdifgldeaaDoorRows
import Derived.RangeFuncNested
import Derived.RangeFuncBound
import Derived.RangeFuncCalls
import Derived.RangeFuncLeaves
import Derived.RangeFuncBox
import Derived.Shelf.Abstract
import Derived.Shelf.RegionOpen
import Derived.WalkKit
import Derived.OwnWalkIn
import Derived.TacticsInMore
import Derived.LoopNIn
import Derived.LoopIn
import Derived.Maps.AppendAt
import Derived.Great.BuildSlice
import Derived.Deep.Cut
import Derived.WalkMore
import Derived.LoopTactic
import Derived.StillTailTactics
import Derived.Laws.ResultCell
import Derived.Laws.Rows
import Derived.BigQuiet
import Derived.Laws.FloatArith
import Derived.Deep.CutRange
set_option linter.unusedVariables false
set_option linter.unusedSimpArgs false
set_option linter.unusedSectionVars false
set_option maxHeartbeats 8000000
set_option maxRecDepth 100000
namespace Go.Proofs.YtkccepdifgldeaaDoor
namespace Tr
attribute [local go_sem] Oper.semAt_some
open Go Go.ChangeShapes Go.WideShapes Go.ChangeAt Go.RowKit
open Go.Shelf
open Tab Flat TabArg QL Ru Rg PlanM
/-- How a round of a loop over a set that writes one block is left. -/
def spost (R : Nat) (ob : Obj) (W : World) : Exit → Act → World → Prop
  | .normal, _, W' => W'.heap[R]? = some ob ∧ W.grownBy W' (some R)
  | _, _, _ => False
theorem set_loop {g : Operand} {ps : Array Tmp} {assign body : Code} {Q : Exit → Act → World → Prop} {a : Act} {W0 : World} (o : List Int → Obj) (be R : Nat) (s : Int)
    (hg : a.eval g = .func (.func 39) #[] #[.pointer (some ⟨be, 0, none⟩)]) (hps : ps.size = 1) (hbe : be < W0.heap.size) (hc : W0.cell? ⟨be, 0, none⟩ = some (.int .i64 s)) (hR : R < W0.heap.size) (hne : be ≠ R) (A : Int → Act) (h0 : W0.heap[R]? = some (o []))
    (hassign : ∀ (l : Nat) (k : Int) (W : World) (K : Act → World → Prop), K (A k) W → assign.wpIn (Fence.wide.inRound l) 4 Tryd.prog (Exit.then K (fun _ _ _ => False)) { tmps := (ps.zip #[Value.int .i64 k]).foldl (fun t (p, v) => t.setIfInBounds p v) a.tmps, defers := [] } W)
    (hbody : ∀ (l : Nat) (pre : List Int) (k : Int) (W : World), k ∈ SetM.list s → W.heap[R]? = some (o pre) → W0.grownBy W (some R) → body.wpIn (Fence.wide.inRound l) 4 Tryd.prog (spost R (o (pre ++ [k])) W) (A k) W)
    (hdone : ∀ (D : Nat) (W : World), W0.heap.size ≤ D → W.heap[R]? = some (o (SetM.list s)) → W0.grownBy W (some R) → W.heap[D]? = some (.deferred (some [])) → Q .normal { a with defers := { target := .collected D, args := #[] } :: a.defers } W) :
    (Code.rangeFunc g ps assign body).wpIn Fence.wide 6 Tryd.prog Q a W0 := by
  refine wpIn_rangeFunc_ownH rfl (by omega) (gf := 39) (lb := #[.pointer (some ⟨be, 0, none⟩)]) hg trivial (enters_of Tryd.func39 (by kernel_rfl) rfl)
    (Each.each_mem _ (by omega) be s W0 hbe hc) Each.Kept.trans (Each.kept_b hbe) (Below.refl _ _) (fun _ => hps.symm)
    (fun pre W => W.heap[R]? = some (o (pre.map Subtype.val)) ∧ W0.grownBy W (some R)) (fun _ _ _ => False)
    ?own (fun _ _ _ _ _ hs _ _ => hs) ⟨h0, Search.grown_of_below (Below.refl _ _)⟩
    (fun x a' _ => a' = A x.1) (fun _ _ _ _ _ _ hs _ _ => hs)
    ?assign ?body ?done ?stop
  case own =>
    rintro pre W W' row ⟨h1, h2⟩ hgr hr
    exact ⟨(hgr.block R (Array.getElem?_eq_some_iff.1 h1).1 (fun e => by have := (hr R e.symm).1; omega)).trans h1, Search.grown_from h2 hgr (fun r e => (hr r e).1)⟩
  case assign =>
    rintro l pre ⟨x, hx⟩ W K h hK
    exact hassign l x W K (hK _ _ (KeepsFrom.refl _ _) (Each.Kept.refl _ _) h rfl)
  case body =>
    rintro l pre ⟨x, hx⟩ a' W hlw hlr ⟨h1, h2⟩ rfl hlt
    refine wpIn_mono (hbody l (pre.map Subtype.val) x W hx h1 h2) ?_
    intro e a' W' h
    cases e with
    | normal =>
      obtain ⟨h3, h4⟩ := h
      exact ⟨KeepsFrom.of_grownBy h4 (fun j e => by cases e; exact hR), h4.block be (Nat.lt_of_lt_of_le hbe h2.size) (fun e => hne (Option.some.inj e)), by rw [List.map_append]; exact h3, Search.grown_trans h2 h4⟩
    | _ => exact h.elim
  case done =>
    rintro D ys W hD hS ⟨h1, h2⟩ hK
    rw [hS] at h1
    exact hdone D W hD h1 h2 hK
  case stop =>
    rintro D c pre W hD _ h _
    exact h.elim
theorem bks_loop {w W0 W : World} {L : List Blk.Bl} (h : Blk.Bks w L W0) (i : Nat) {R : Nat} {cs cs' : Array Value} {t : TypeId} (hi : L[i]? = some (R, cs, t)) (hR : W.heap[R]? = some (.cells cs' t (0, 0))) (hg : W0.grownBy W (some R)) : Blk.Bks w (L.set i (R, cs', t)) W := by
  have hlt : i < L.length := (List.getElem?_eq_some_iff.1 hi).1
  have h1 := h.put i hi cs'
  refine ⟨h.bel.grown hg h.bel.size (fun k e => by cases e; exact h.ge i hi), h1.low, ?_, h1.apart⟩
  intro x hx
  by_cases hxR : x.1 = R
  · have h2 := h1.blk x hx
    have h3 := h1.at i (by rw [List.getElem?_set]; simp [hlt] : (L.set i (R, cs', t))[i]? = some (R, cs', t))
    rw [hxR] at h2 ⊢
    rw [h3] at h2
    rw [hR]
    exact h2
  · obtain ⟨k, hk⟩ := List.mem_iff_getElem?.1 hx
    rw [List.getElem?_set] at hk
    split at hk
    · rename_i e; subst e
      (try rw [if_pos hlt] at hk)
      obtain rfl := Option.some.inj hk
      exact absurd rfl hxR
    · have hm := List.mem_of_getElem? hk
      exact (hg.block x.1 (h.lt hm) (fun e => hxR (Option.some.inj e))).trans (h.blk x hm)
theorem mark_kept {W W' : World} {R D : Nat} {o : Obj} (hg : W.grownBy W' (some R)) (hD : W.heap[D]? = some o) (ho : o.isCells = false) {c : Obj} (hc : W.heap[R]? = some c) (hcc : c.isCells = true) : W'.heap[D]? = some o := by
  refine (hg.block D (Array.getElem?_eq_some_iff.1 hD).1 (fun e => ?_)).trans hD
  obtain rfl := Option.some.inj e
  rw [hD] at hc
  obtain rfl := Option.some.inj hc
  rw [ho] at hcc
  cases hcc
theorem mark_below {W W' : World} {D : Nat} {o : Obj} (hb : Below W.heap.size W W') (hD : W.heap[D]? = some o) : W'.heap[D]? = some o := (hb.block D (Array.getElem?_eq_some_iff.1 hD).1).trans hD
/-- What the iterator finds, and that the block R is none of its own. -/
theorem ea_of {w W0 : World} {L : List Blk.Bl} (h : Blk.Bks w L W0) {T : Tab} {hd : Hd} (ht : IsTab w hd T) (db : DB w) {s : Int} {bo bs R : Nat} {t0 t1 t2 : TypeId} {c2 : Array Value} (k : Nat) (hk : 2 ≤ k)
    (i0 : L[0]? = some (bo, #[.slice hd.b.a (min T.buses.length 4) hd.b.cap], t0)) (i1 : L[1]? = some (bs, #[I s], t1)) (i2 : L[k]? = some (R, c2, t2)) :
    EA bs bo s T.buses hd.b W0 ∧ ∀ b ∈ blks bs bo T.buses hd.b, b < W0.heap.size ∧ b ≠ R := by
  have hE : EA bs bo s T.buses hd.b W0 := ⟨h.cell 1 0 i1 rfl, h.cell 0 0 i0 rfl, (ht.below h.bel).buses, db.below h.bel⟩
  have l3 := h.ge k i2
  have lz := h.bel.size
  have ne0 := Blk.nd_ne h.apart (i := 0) (j := k) (by rw [List.getElem?_map, i0]; rfl) (by rw [List.getElem?_map, i2]; rfl) (by omega)
  have ne1 := Blk.nd_ne h.apart (i := 1) (j := k) (by rw [List.getElem?_map, i1]; rfl) (by rw [List.getElem?_map, i2]; rfl) (by omega)
  refine ⟨hE, fun b hb => ⟨hE.lt b hb, fun e => ?_⟩⟩
  subst e
  rcases blks_cases hb with e | e | e | ⟨x, e1, e2⟩
  · have := db.lt; omega
  · exact ne1 e.symm
  · exact ne0 e.symm
  · have := xOf_lt ht.buses e1; omega
/-- The union of the sets of these buses. -/
def aS (bu : List Bs) (l : List Nat) : Int := l.foldl (fun m k => bits .or .i64 m (busAt bu k).set) 0
theorem aS_snoc (bu : List Bs) (l : List Nat) (k : Nat) : aS bu (l ++ [k]) = bits .or .i64 (aS bu l) (busAt bu k).set := by unfold aS; rw [List.foldl_append]; rfl
/-- The phases of l for which f holds, as a set. -/
def fZ (f : Int → Bool) (l : List Int) : Nat := SetM.of (l.filter f)
theorem fZ_hit {f : Int → Bool} {l : List Int} {x : Int} (h : f x = true) : SetM.withN (fZ f l : Nat) x = fZ f (l ++ [x]) := by
  unfold fZ; rw [SetM.with_of, List.filter_append]; simp [h]
theorem fZ_miss {f : Int → Bool} {l : List Int} {x : Int} (h : f x = false) : fZ f (l ++ [x]) = fZ f l := by
  unfold fZ; rw [List.filter_append]; simp [h]
/-- P20.1: what is held. -/
def holdS (T : Tab) (s : Rid) (rs : List Ru) (ask : Int) : Nat := if T.budget ≤ s.sp then 0 else fZ (fun p => decide ((ruAt rs p).ex < T.extend)) (SetM.list (bits .and .i64 (aS T.buses (eL (liveS T s ask : Nat) T.buses)) (thS grB rs : Nat)))
/-- P20.1: what is to end early. -/
def eS (bu : List Bs) (gr : Int) (l : List Nat) : Int := l.foldl (fun m k => if bits .and .i64 (busAt bu k).set gr = 0 then bits .or .i64 m (bits .andNot .i64 255 (busAt bu k).set) else m) 0
theorem eS_hit {bu : List Bs} {gr : Int} {l : List Nat} {k : Nat} (h : bits .and .i64 (busAt bu k).set gr = 0) : eS bu gr (l ++ [k]) = bits .or .i64 (eS bu gr l) (bits .andNot .i64 255 (busAt bu k).set) := by unfold eS; rw [List.foldl_append]; simp [h]
theorem eS_miss {bu : List Bs} {gr : Int} {l : List Nat} {k : Nat} (h : ¬ bits .and .i64 (busAt bu k).set gr = 0) : eS bu gr (l ++ [k]) = eS bu gr l := by unfold eS; rw [List.foldl_append]; simp [h]
def earlyS (T : Tab) (s : Rid) (rs : List Ru) (ask : Int) : Int := eS T.buses (thS grB rs : Nat) (eL (liveS T s ask : Nat) T.buses)
end Tr
namespace Tr
attribute [local go_sem] Oper.semAt_some
open Go Go.ChangeShapes Go.WideShapes Go.ChangeAt Go.RowKit
open Go.Shelf
open Tab Flat TabArg QL Ru Rg PlanM
theorem live_any (T : Tab) (hd : Hd) (s : Rid) (ask : Int) (w : World) (ht : IsTab w hd T) (db : DB w) : Calls Tryd.prog 10 #[.agg (T.cells hd).toArray, .agg s.cells.toArray, .int .i64 ask] w fun e w' => e = .returned (.int .i64 (liveS T s ask : Nat)) ∧ Below w.heap.size w w' := by
  have h1 : (T.cells hd).length = 131 := by have := (cells_ok ht).size; rwa [List.size_toArray] at this
  have IA : (Tryd.prog.info? 31).map (·.size) = some (T.cells hd).length := by rw [h1]; exact May.infoT
  have HL : Hid (liveS T s ask = fN (fun k => decide (s.lk k ≤ 0)) (eL ask T.buses)) := Lib.hid rfl
  generalize liveS T s ask = res at HL ⊢
  have HT0 := Lib.hid ht
  have DB0 := Lib.hid db
  have hn0 := Blk.Bks.nil w
  have hn1 := hn0.alloc (T.cells hd).toArray 31
  have hn2 := hn1.alloc s.cells.toArray 34
  rw [show (w.alloc (.cells (T.cells hd).toArray 31)).heap.size = w.heap.size + 1 by simp] at hn2
  clear hn0
  clear hn1
  refine (callsIn_wide (n := 6)).1 ?_
  refine callsIn_of_wp_marks Tryd.func10 rfl trivial ?_ rfl
  simp only [Tryd.ntmps10, List.size_toArray, List.length_cons, List.length_nil, Nat.reduceAdd, Nat.reduceSub, Array.replicate_succ, Array.replicate_zero, List.push_toArray, List.append_toArray, List.nil_append, List.cons_append]
  refine wpIn_wide.2 ?_
  go_upto_region 2 with fail
  have hn3 := hn2.alloc #[I 0] 3
  rw [show ((w.alloc (.cells (T.cells hd).toArray 31)).alloc (.cells s.cells.toArray 34)).heap.size = w.heap.size + 1 + 1 by simp] at hn3
  clear hn2
  generalize World.alloc (World.alloc (World.alloc w _) _) _ = v at hn3 ⊢
  generalize hg2 : w.heap.size + 1 + 1 = gl at hn3 ⊢
  clear hg2
  generalize hg1 : w.heap.size + 1 = gs at hn3 ⊢
  generalize hg0 : w.heap.size = gt at hn3 ⊢
  clear hg0 hg1
  have H0 := Lib.hid hn3
  clear hn3
  go_wp2_with (refine Row.wpList_load_g 31 _ rfl (by first | rfl | (go_simp; done) | fail) ⟨gt, 0, none⟩ rfl (T.cells hd) _ (by have := H0.out.lies 2 rfl; simpa using this) Tryd.underlying31 rfl IA ?_)
  refine (callsIn_wide.1 (each_in 6 T hd ask _ (ht.below H0.out.bel))).mono ?_
  rintro e vn ⟨rfl, rfl⟩
  go_wp2_with fail
  have hn := ((H0.out.alloc (T.cells hd).toArray 31).alloc #[I ask] 3).alloc #[.slice hd.b.a (min T.buses.length 4) hd.b.cap] 29
  rw [show (v.alloc (.cells (T.cells hd).toArray 31)).heap.size = v.heap.size + 1 by simp, show ((v.alloc (.cells (T.cells hd).toArray 31)).alloc (.cells #[I ask] 3)).heap.size = v.heap.size + 2 by simp] at hn
  generalize World.alloc (World.alloc (World.alloc v _) _) _ = W0 at hn ⊢
  generalize hb2 : v.heap.size + 2 = bo at hn ⊢
  generalize hb1 : v.heap.size + 1 = bs at hn ⊢
  generalize v.heap.size = bt at hn
  clear hb1 hb2 H0
  have H1 := Lib.hid hn
  clear hn
  have hE : EA bs bo ask T.buses hd.b W0 := ⟨H1.out.cell 1 0 rfl rfl, H1.out.cell 0 0 rfl rfl, (ht.below H1.out.bel).buses, db.below H1.out.bel⟩
  have hlb : ∀ b ∈ blks bs bo T.buses hd.b, b < W0.heap.size ∧ b ≠ gl := by
    have l3 := H1.out.ge 3 rfl
    have lz := H1.out.bel.size
    have ne0 := Blk.nd_ne H1.out.apart (i := 0) (j := 3) rfl rfl (by decide)
    have ne1 := Blk.nd_ne H1.out.apart (i := 1) (j := 3) rfl rfl (by decide)
    refine fun b hb => ⟨hE.lt b hb, fun e => ?_⟩
    subst e
    rcases blks_cases hb with e | e | e | ⟨x, e1, e2⟩
    · have := db.lt; omega
    · exact ne1 e.symm
    · exact ne0 e.symm
    · have := xOf_lt ht.buses e1; omega
  refine (wpIn_wide (n := 6)).1 ?_
  refine each_loop0 (fun pre => .cells #[I (fN (fun k => decide (s.lk k ≤ 0)) pre : Nat)] 3) bs bo gl ask T.buses hd.b rfl rfl hE (Blk.lt_of (H1.out.at 3 rfl)) hlb (fun _ => rfl) (fun k => { tmps := #[.agg (T.cells hd).toArray, .agg s.cells.toArray, .int .i64 ask, .pointer (some ⟨gt, 0, none⟩), .pointer (some ⟨gs, 0, none⟩), undef, .int .i64 0, .pointer (some ⟨gl, 0, none⟩), .int .i64 k, .agg (T.cells hd).toArray, .int .i64 ask, .func (.func 37) #[] #[.pointer (some ⟨bs, 0, none⟩), .pointer (some ⟨bo, 0, none⟩)], .int .i64 k, .agg (busAt T.buses k).cells.toArray, undef, undef, undef, undef, undef, undef, undef, undef, undef, undef], defers := [] }) (H1.out.at 3 rfl) ?assign ?body ?done
  case assign =>
    intro l k W K hg hK
    gi_wp2
    exact hK
  case body =>
    intro l pre k W hk hR hg
    obtain ⟨hk0, hk4, hk2⟩ := mem_eL.1 hk
    have hgs : W.heap[gs]? = some (.cells s.cells.toArray 34 (0, 0)) := (hg.block gs (Blk.lt_of (H1.out.at 4 rfl)) (fun e => Blk.nd_ne H1.out.apart (i := 4) (j := 3) rfl rfl (by decide) (Option.some.inj e))).trans (H1.out.at 4 rfl)
    have c0 : W.cell? ⟨gs, k, none⟩ = some (I (s.lk k)) := by
      rw [cell_of_row _ _ _ _ _ _ hgs, List.getElem?_toArray]
      exact lk_at s hk4
    have c1 : W.cell? ⟨gl, 0, none⟩ = some (I (fN (fun k => decide (s.lk k ≤ 0)) pre : Nat)) := by rw [cell_of_row _ _ _ _ _ _ hR]; rfl
    have f1 : W.frozen? ⟨gl, 0, none⟩ = false := frozen_of_row _ _ _ _ _ hR
    have hk5 : (k : Int) < 4 := by omega
    have HR := Lib.hid hR
    clear hR hgs hk0 hk2 hE hlb hg
    by_cases hlk : s.lk k ≤ 0
    · have HO : Hid (bits .or .i64 (fN (fun k => decide (s.lk k ≤ 0)) pre : Nat) (wrap64 ((2 : Int) ^ k)) = (fN (fun k => decide (s.lk k ≤ 0)) (pre ++ [k]) : Nat)) := Lib.hid (fN_or (decide_eq_true hlk) (by omega))
      generalize ((fN (fun k => decide (s.lk k ≤ 0)) pre : Nat) : Int) = m at *
      refine wpIn_block (wpIn_seq ?_)
      refine Up.region_list (fun ⟨_, _, h⟩ => h) (by kernel_rfl) ?_
      go_wp2_with fail
      gi_wp2
      refine Up.region_tail 4 (fun ⟨_, _, h⟩ => h) (by kernel_rfl) (by kernel_rfl) (by kernel_rfl) ?_
      have d1 : ({ W with drawn := W.drawn + 1 } : World).cell? ⟨gl, 0, none⟩ = some (I m) := c1
      have e1 : ({ W with drawn := W.drawn + 1 } : World).frozen? ⟨gl, 0, none⟩ = false := f1
      have HR1 : Hid (({ W with drawn := W.drawn + 1 } : World).heap[gl]? = some (.cells #[I m] 3)) := HR
      have HB := Lib.hid (show Below W.heap.size W { W with drawn := W.drawn + 1 } from (Below.refl _ _).drew)
      clear c1 f1 HR
      generalize ({ W with drawn := W.drawn + 1 } : World) = W2 at d1 e1 HR1 HB ⊢
      simp only [List.take_succ_cons, List.take_zero, List.drop_succ_cons, List.drop_zero]
      repeat still_step
      refine wpStill_nil ?_
      go_wp2_with fail
      rw [HO.out]
      exact ⟨Boxed.set _ (show Boxed W2 gl 3 (I m) from HR1.out), Search.grown_trans (Search.grown_of_below HB.out) (grownBy_setCell' _ _ _)⟩
    · have HO : Hid (fN (fun k => decide (s.lk k ≤ 0)) (pre ++ [k]) = fN (fun k => decide (s.lk k ≤ 0)) pre) := Lib.hid (fN_miss (decide_eq_false hlk))
      generalize fN (fun k => decide (s.lk k ≤ 0)) pre = m at *
      refine wpIn_block (wpIn_seq ?_)
      refine Up.region_list (fun ⟨_, _, h⟩ => h) (by kernel_rfl) ?_
      go_wp2_with fail
      gi_wp2
      refine ⟨?_, Search.grown_of_below (Below.refl _ _)⟩
      dsimp only
      rw [HO.out]
      exact HR.out
  case done =>
    intro D W hD hR hg hK
    rw [← HL.out] at hR
    have hc := Boxed.cell hR
    have HB : Hid (Below w.heap.size w W) := Lib.hid (H1.out.bel.grown hg H1.out.bel.size (fun k e => by cases e; exact H1.out.ge 3 rfl))
    have HD : Hid (w.heap.size ≤ D) := Lib.hid (by have := H1.out.bel.size; omega)
    clear hg hR hE hlb
    go_wp2
    refine ⟨by simp, .inl ⟨_, _, rfl, run_takeDeferred hK, ?_⟩⟩
    exact ⟨_, results_tmp rfl _ _ _, rfl, HB.out.trans (belowK_b (w := w) (Nat.le_refl _) _ D _ _ HD.out hK rfl rfl)⟩
end Tr
namespace Tr
attribute [local go_sem] Oper.semAt_some
open Go Go.ChangeShapes Go.WideShapes Go.ChangeAt Go.RowKit
open Tab Flat TabArg QL Ru Rg PlanM
theorem green_any (rs : List Ru) (h8 : rs.length = 8) (w : World) : Calls Tryd.prog 24 #[.agg (runsC rs).toArray] w fun e w' => e = .returned (.int .i64 (thS grB rs : Nat)) ∧ Below w.heap.size w w' := by
  have RS : Hid (((thS grB rs : Nat) : Int) = (SetM.of (thTo grB 0 (rs.take 8)) : Nat)) := Lib.hid (by rw [List.take_of_length_le (by omega)]; rfl)
  have IX : Hid (∀ (q : Nat) u, rs[q]? = some u → ∀ W, Sem.run Tryd.prog (Instr.index 41 (.agg (runsC rs).toArray) (.int .i64 q)) W = .ok (.agg u.cells.toArray) W) := Lib.hid (fun q u hu W => idx_run h8 hu W)
  have LI : Hid ((Tryd.prog.info? 41).map (·.size) = some (runsC rs).length) := Lib.hid (by rw [runs_len, h8]; exact infoRs)
  have hs0 : (runsC rs).length = 96 := by rw [runs_len, h8]
  have L8 := Lib.hid h8
  generalize hrs : ((thS grB rs : Nat) : Int) = res at RS ⊢
  clear hrs
  generalize hrc : runsC rs = fl at *
  clear hrc h8
  have hn0 := Blk.Bks.nil w
  have hn1 := hn0.alloc fl.toArray 41
  clear hn0
  go_enter Tryd.func24, Tryd.ntmps24
  go_upto_region 2 with fail
  generalize World.alloc w _ = v at hn1 ⊢
  generalize hg0 : w.heap.size = gq at hn1 ⊢
  clear hg0
  have H0 := Lib.hid hn1
  clear hn1
  clear hs0
  go_wp2_with (refine Row.wpList_load_g 41 _ rfl (by first | rfl | (go_simp; done) | fail) ⟨gq, 0, none⟩ rfl fl _ (seg H0.out 0 0 rfl _ (by simp)) Tryd.underlying41 rfl LI.out ?_)
  go_loopw [3, 7] (fun v g wr => ∃ q : Nat, q ≤ 8 ∧ g = .int .i64 q ∧ v = .int .i64 (SetM.of (thTo grB 0 (rs.take q)) : Nat) ∧ Below w.heap.size w wr) (fun _ g _ => 8 - (intOf g).toNat)
  case atStart => exact ⟨0, by omega, rfl, rfl, H0.out.bel⟩
  case round =>
    obtain ⟨q, hq, rfl, rfl, hbel⟩ := hrel
    have HB := Lib.hid hbel
    clear hbel
    by_cases hlt : q < 8
    · have hv : rs[q]? = some (ruAt rs q) := ru_at L8.out hlt
      generalize ruAt rs q = u at hv
      have HV := Lib.hid hv
      have hidx := IX.out q u hv
      clear hv
      have hsz := HB.out.size
      go_upto_region 5 with (refine Row.wpList_store_new rfl 40 _ _ rfl wr _ u.cells.toArray rfl rfl rfl infoRu rfl (one_ru _) ?_)
      clear hidx
      have hbn : Below w.heap.size w (wr.alloc (.cells u.cells.toArray 40)) := HB.out.alloc hsz _
      have hg := Row.lies_of_block (heap_alloc_new wr (.cells u.cells.toArray 40))
      have HN := Lib.hid hbn
      have c0 := hg 0 (I u.co) rfl
      rw [Tab.add_zero] at c0
      clear hg hbn HB hsz
      generalize wr.alloc (.cells u.cells.toArray 40) = w4 at c0 HN ⊢
      generalize wr.heap.size = b4 at c0 ⊢
      cases hon : grB u with
      | true =>
        have HS := Lib.hid (th_with HV.out hon)
        have e1 : u.co = 1 := by unfold grB at hon; exact beq_iff_eq.1 hon
        rw [e1] at c0
        clear hon e1
        generalize SetM.of (thTo grB 0 (rs.take q)) = s0 at HS ⊢
        go_wp2_with (go_at_call 25; refine (Set.with_any _ _ _).mono ?_; rintro e w' ⟨rfl, rfl⟩)
        go_roundw
        case rel => exact ⟨q + 1, by omega, by go_num, by rw [← HS.out], HN.out⟩
        case measure => simp [intOf]; omega
      | false =>
        have HS := Lib.hid (th_skip HV.out hon)
        have e1 : ¬ u.co = 1 := by unfold grB at hon; exact beq_eq_false_iff_ne.1 hon
        have e2 : (u.co == 1) = false := beq_eq_false_iff_ne.2 e1
        clear hon
        generalize SetM.of (thTo grB 0 (rs.take q)) = s0 at HS ⊢
        go_wp2
        go_roundw
        case rel => exact ⟨q + 1, by omega, by go_num, by rw [← HS.out], HN.out⟩
        case measure => simp [intOf]; omega
    · obtain rfl : q = 8 := by omega
      have HE : Hid (((SetM.of (thTo grB 0 (rs.take 8)) : Nat) : Int) = res) := Lib.hid RS.out.symm
      generalize SetM.of (thTo grB 0 (rs.take 8)) = s0 at HE ⊢
      go_wp2
      go_ret
      exact ⟨ret_int HE.out, HB.out⟩
end Tr
namespace SetE
open Go.RowKit Go.Shelf
open Go.Proofs.YtkccepdifgldeaaDoor
attribute [local go_sem] Oper.semAt_some
/-- The block B lies as it lay. -/
def Kept (B : Nat) (W W' : World) : Prop := W'.heap[B]? = W.heap[B]?
theorem Kept.refl (B : Nat) (W : World) : Kept B W W := rfl
theorem Kept.trans {B : Nat} {A C D : World} (h : Kept B A C) (k : Kept B C D) : Kept B A D := Eq.trans k h
theorem Kept.cell {B o : Nat} {A C : World} (h : Kept B A C) : C.cell? ⟨B, o, none⟩ = A.cell? ⟨B, o, none⟩ := by
  simp only [World.cell?, show C.heap[B]? = A.heap[B]? from h]
theorem Kept.below {n₀ B : Nat} {A C : World} (h : Below n₀ A C) (hB : B < n₀) : Kept B A C := h.block B hB
theorem Kept.setCell {B b o : Nat} (W : World) (v : Value) (h : B ≠ b) : Kept B W (W.setCell ⟨b, o, none⟩ v) := Below.heap_setCell _ _ _ B h
end SetE
namespace Tr
attribute [local go_sem] Oper.semAt_some
open Go Go.ChangeShapes Go.WideShapes Go.ChangeAt Go.RowKit
open Go.Shelf
open Tab Flat TabArg QL Ru Rg PlanM
theorem hold_any (T : Tab) (hd : Hd) (s : Rid) (rs : List Ru) (ask : Int) (w : World) (ht : IsTab w hd T) (db : DB w) (h8 : rs.length = 8) : Calls Tryd.prog 12 #[.agg (T.cells hd).toArray, .agg s.cells.toArray, .agg (runsC rs).toArray, .int .i64 ask] w fun e w' => e = .returned (.int .i64 (holdS T s rs ask : Nat)) ∧ Below w.heap.size w w' := by
  have h1 : (T.cells hd).length = 131 := by have := (cells_ok ht).size; rwa [List.size_toArray] at this
  have IA : (Tryd.prog.info? 31).map (·.size) = some (T.cells hd).length := by rw [h1]; exact May.infoT
  have IR : (Tryd.prog.info? 41).map (·.size) = some (runsC rs).length := by rw [runs_len, h8]; exact infoRs
  have HT0 := Lib.hid ht
  have DB0 := Lib.hid db
  obtain ⟨res, hres⟩ : ∃ r, holdS T s rs ask = r := ⟨_, rfl⟩
  rw [hres]
  unfold holdS at hres
  by_cases hb : T.budget ≤ s.sp
  · rw [if_pos hb] at hres
    subst hres
    have hn0 := Blk.Bks.nil w
    have hn1 := hn0.alloc (T.cells hd).toArray 31
    have hn2 := hn1.alloc s.cells.toArray 34
    rw [show (w.alloc (.cells (T.cells hd).toArray 31)).heap.size = w.heap.size + 1 by simp] at hn2
    have hn3 := hn2.alloc (runsC rs).toArray 41
    rw [show ((w.alloc (.cells (T.cells hd).toArray 31)).alloc (.cells s.cells.toArray 34)).heap.size = w.heap.size + 1 + 1 by simp] at hn3
    clear hn0
    clear hn1
    clear hn2
    refine (callsIn_wide (n := 6)).1 ?_
    refine callsIn_of_wp_marks Tryd.func12 rfl trivial ?_ rfl
    simp only [Tryd.ntmps12, List.size_toArray, List.length_cons, List.length_nil, Nat.reduceAdd, Nat.reduceSub, Array.replicate_succ, Array.replicate_zero, List.push_toArray, List.append_toArray, List.nil_append, List.cons_append]
    refine wpIn_wide.2 ?_
    go_upto_region 1 with fail
    generalize World.alloc (World.alloc (World.alloc w _) _) _ = v at hn3 ⊢
    generalize hg2 : w.heap.size + 1 + 1 = gr at hn3 ⊢
    generalize hg1 : w.heap.size + 1 = gs at hn3 ⊢
    generalize hg0 : w.heap.size = gt at hn3 ⊢
    clear hg0 hg1 hg2
    have H0 := Lib.hid hn3
    clear hn3
    have k5 : v.cell? ⟨gs, 5, none⟩ = some (I s.sp) := H0.out.cell 1 5 rfl rfl
    have k7 : v.cell? ⟨gt, 117, none⟩ = some (I T.budget) := H0.out.cell 2 117 rfl (by rw [List.getElem?_toArray]; exact tab_bd ht)
    go_wp2
    exact ⟨_, results_tmp rfl _ _ _, rfl, H0.out.bel⟩
  · rw [if_neg hb] at hres
    have hn0 := Blk.Bks.nil w
    have hn1 := hn0.alloc (T.cells hd).toArray 31
    have hn2 := hn1.alloc s.cells.toArray 34
    rw [show (w.alloc (.cells (T.cells hd).toArray 31)).heap.size = w.heap.size + 1 by simp] at hn2
    have hn3 := hn2.alloc (runsC rs).toArray 41
    rw [show ((w.alloc (.cells (T.cells hd).toArray 31)).alloc (.cells s.cells.toArray 34)).heap.size = w.heap.size + 1 + 1 by simp] at hn3
    clear hn0
    clear hn1
    clear hn2
    refine (callsIn_wide (n := 6)).1 ?_
    refine callsIn_of_wp_marks Tryd.func12 rfl trivial ?_ rfl
    simp only [Tryd.ntmps12, List.size_toArray, List.length_cons, List.length_nil, Nat.reduceAdd, Nat.reduceSub, Array.replicate_succ, Array.replicate_zero, List.push_toArray, List.append_toArray, List.nil_append, List.cons_append]
    refine wpIn_wide.2 ?_
    go_upto_region 1 with fail
    generalize World.alloc (World.alloc (World.alloc w _) _) _ = v at hn3 ⊢
    generalize hg2 : w.heap.size + 1 + 1 = gr at hn3 ⊢
    generalize hg1 : w.heap.size + 1 = gs at hn3 ⊢
    generalize hg0 : w.heap.size = gt at hn3 ⊢
    clear hg0 hg1 hg2
    have H0 := Lib.hid hn3
    clear hn3
    have k5 : v.cell? ⟨gs, 5, none⟩ = some (I s.sp) := H0.out.cell 1 5 rfl rfl
    have k7 : v.cell? ⟨gt, 117, none⟩ = some (I T.budget) := H0.out.cell 2 117 rfl (by rw [List.getElem?_toArray]; exact tab_bd ht)
    go_upto_region 4 with fail
    clear k5 k7
    have hn := H0.out.alloc #[I 0] 3
    generalize World.alloc v _ = v2 at hn ⊢
    generalize v.heap.size = ga at hn ⊢
    have H1 := Lib.hid hn
    clear hn H0
    obtain ⟨live, hlive⟩ : ∃ l : Int, (liveS T s ask : Nat) = l := ⟨_, rfl⟩
    rw [hlive] at hres
    have LV : Hid (∀ W, Below v2.heap.size v2 W → Calls Tryd.prog 10 #[.agg (T.cells hd).toArray, .agg s.cells.toArray, .int .i64 ask] W fun e w' => e = .returned (.int .i64 live) ∧ Below W.heap.size W w') := Lib.hid (fun W hb => by rw [← hlive]; exact live_any T hd s ask W (ht.below (H1.out.step hb).bel) (db.below (H1.out.step hb).bel))
    clear hlive
    refine QT.region v2.heap.size 5 (by kernel_rfl) (by kernel_rfl) ?_
    simp only [List.take_succ_cons, List.take_zero]
    repeat first
      | (refine wpQuiet_load rfl 31 _ rfl ⟨gt, 0, none⟩ rfl (T.cells hd) _ (fun w' ⟨pw, e⟩ => by rw [e]; exact seg (H1.out.by pw) 3 0 rfl _ (by simp)) Tryd.underlying31 rfl IA ?_
         dsimp only [Act.put]
         simp only [List.setIfInBounds_toArray, List.set_cons_zero, List.set_cons_succ])
      | (refine wpQuiet_load rfl 34 _ rfl ⟨gs, 0, none⟩ rfl s.cells _ (fun w' ⟨pw, e⟩ => by rw [e]; exact seg (H1.out.by pw) 2 0 rfl _ rfl) Tryd.underlying34 rfl infoRd ?_
         dsimp only [Act.put]
         simp only [List.setIfInBounds_toArray, List.set_cons_zero, List.set_cons_succ])
      | (quiet_step (first | (go_at_call 10; with_reducible exact QB.call_of (Nat.le_refl _) (fun b => LV.out _ b))))
    refine wpQuiet_nil ?_
    intro _ hw'
    obtain ⟨pq, rfl⟩ := hw'
    have HP := Lib.hid (H1.out.by pq)
    generalize pq.world = vp at HP ⊢
    simp only [List.drop_succ_cons, List.drop_zero]
    clear LV H1
    go_wp2_with fail
    refine (callsIn_wide.1 (each_in 6 T hd live _ (ht.below HP.out.bel))).mono ?_
    rintro e vn ⟨rfl, rfl⟩
    go_wp2_with fail
    have hn := ((HP.out.alloc (T.cells hd).toArray 31).alloc #[I live] 3).alloc #[.slice hd.b.a (min T.buses.length 4) hd.b.cap] 29
    rw [show (vp.alloc (.cells (T.cells hd).toArray 31)).heap.size = vp.heap.size + 1 by simp, show ((vp.alloc (.cells (T.cells hd).toArray 31)).alloc (.cells #[I live] 3)).heap.size = vp.heap.size + 2 by simp] at hn
    generalize World.alloc (World.alloc (World.alloc vp _) _) _ = W0 at hn ⊢
    generalize hb2 : vp.heap.size + 2 = bo at hn ⊢
    generalize hb1 : vp.heap.size + 1 = bs at hn ⊢
    generalize vp.heap.size = bt at hn
    clear hb1 hb2 HP
    have H2 := Lib.hid hn
    clear hn
    obtain ⟨hE, hlb⟩ := ea_of H2.out ht db 3 (by decide) rfl rfl rfl
    refine (wpIn_wide (n := 6)).1 ?_
    refine each_loop (fun pre => .cells #[I (aS T.buses pre)] 3) bs bo ga live T.buses hd.b rfl rfl hE (Blk.lt_of (H2.out.at 3 rfl)) hlb (fun _ => rfl) (fun k Bx => { tmps := #[.agg (T.cells hd).toArray, .agg s.cells.toArray, .agg (runsC rs).toArray, I ask, .pointer (some ⟨gt, 0, none⟩), .pointer (some ⟨gs, 0, none⟩), .pointer (some ⟨gr, 0, none⟩), undef, I 0, .pointer (some ⟨ga, 0, none⟩), undef, .pointer (some ⟨Bx, 0, none⟩), undef, undef, .pointer (some ⟨gs, 5, none⟩), I s.sp, .pointer (some ⟨gt, 117, none⟩), I T.budget, .bool false, .agg (T.cells hd).toArray, .agg (T.cells hd).toArray, .agg s.cells.toArray, I ask, I live, .func (.func 37) #[] #[.pointer (some ⟨bs, 0, none⟩), .pointer (some ⟨bo, 0, none⟩)], I k, .agg (busAt T.buses k).cells.toArray, undef, undef, undef, undef, undef, undef, undef, undef, undef, undef, undef, undef, undef, undef, undef, undef, undef, undef, undef, undef, undef], defers := [] }) 53 (fun k => (busAt T.buses k).cells.toArray) (H2.out.at 3 rfl) ?assign ?body ?done
    case assign =>
      intro l k W K hg hK
      have HK := Lib.hid hK
      clear hK
      generalize busAt T.buses k = b at HK ⊢
      refine Up.region_list (fun ⟨_, _, h⟩ => h) (by kernel_rfl) ?_
      go_wp2_with (refine Row.wpList_store_new rfl 53 _ _ rfl W _ b.cells.toArray rfl rfl rfl infoBs rfl (Bs.one _) ?_)
      exact HK.out _ ((Below.refl _ _).alloc (Nat.le_refl _) _) (heap_alloc_new W _)
    case body =>
      intro l pre k Bx W hk hR hg hBx hB
      have HO := Lib.hid (aS_snoc T.buses pre k)
      generalize aS T.buses pre = m at *
      generalize busAt T.buses k = b at *
      have c1 : W.cell? ⟨ga, 0, none⟩ = some (I m) := by rw [cell_of_row _ _ _ _ _ _ hR]; rfl
      have f1 : W.frozen? ⟨ga, 0, none⟩ = false := frozen_of_row _ _ _ _ _ hR
      have c2 : W.cell? ⟨Bx, 0, none⟩ = some (I b.set) := by rw [cell_of_row _ _ _ _ _ _ hB]; rfl
      have HR := Lib.hid hR
      clear hR hB hE hlb hg
      refine wpIn_block ?_
      refine Up.region_list (fun ⟨_, _, h⟩ => h) (by kernel_rfl) ?_
      go_wp2_with fail
      dsimp only [rpost, Exit.inBlock]
      rw [HO.out]
      exact ⟨Boxed.set _ (show Boxed W ga 3 (I m) from HR.out), grownBy_setCell' _ _ _⟩
    case done =>
      intro D W hD hR hg hK
      have H3 := Lib.hid (bks_loop H2.out 3 rfl hR hg)
      simp only [List.set_cons_succ, List.set_cons_zero] at H3
      generalize aS T.buses (eL live T.buses) = asked at H3 hres
      have KD := Lib.hid hK
      have GD : Hid (w.heap.size ≤ D) := Lib.hid (by have := H2.out.bel.size; omega)
      clear hR hg hK hE hlb H2
      go_wp2_with fail
      have hn := H3.out.alloc #[I 0] 3
      have kd := mark_below ((Below.refl W.heap.size W).alloc (Nat.le_refl _) (.cells #[I 0] 3)) KD.out
      generalize World.alloc W _ = v5 at hn kd ⊢
      generalize W.heap.size = gh at hn ⊢
      have H4 := Lib.hid hn
      have KD4 := Lib.hid kd
      clear hn kd H3 KD
      obtain ⟨gn, hgn⟩ : ∃ g : Int, (thS grB rs : Nat) = g := ⟨_, rfl⟩
      rw [hgn] at hres
      have GR : Hid (∀ W, Calls Tryd.prog 24 #[.agg (runsC rs).toArray] W fun e w' => e = .returned (.int .i64 gn) ∧ Below W.heap.size W w') := Lib.hid (fun W => by rw [← hgn]; exact green_any rs h8 W)
      have q1 : ∀ q : QB.By v5.heap.size v5, q.world.cell? ⟨ga, 0, none⟩ = some (I asked) := fun q => (H4.out.by q).cell 4 0 rfl rfl
      refine QT.region v5.heap.size 4 (by kernel_rfl) (by kernel_rfl) ?_
      simp only [List.take_succ_cons, List.take_zero]
      repeat first
        | (refine wpQuiet_load rfl 41 _ rfl ⟨gr, 0, none⟩ rfl (runsC rs) _ (fun w' ⟨pw, e⟩ => by rw [e]; exact seg (H4.out.by pw) 5 0 rfl _ (by simp)) Tryd.underlying41 rfl IR ?_
           dsimp only [Act.put]
           simp only [List.setIfInBounds_toArray, List.set_cons_zero, List.set_cons_succ])
        | (quiet_step (first | (go_at_call 24; with_reducible exact QB.call_of (Nat.le_refl _) (fun b => GR.out _))))
      refine wpQuiet_nil ?_
      intro _ hw'
      obtain ⟨pq, rfl⟩ := hw'
      have HP := Lib.hid (H4.out.by pq)
      have KD5 := Lib.hid (mark_below pq.below KD4.out)
      generalize pq.world = vp at HP KD5 ⊢
      simp only [List.drop_succ_cons, List.drop_zero]
      clear q1 H4 KD4
      clear GR
      generalize hs2 : bits .and .i64 asked gn = s2 at *
      clear hs2
      go_wp2_with fail
      refine (callsIn_wide.1 (Each.each_in 6 _ _)).mono ?_
      rintro e vn ⟨rfl, rfl⟩
      go_wp2_with fail
      have hn := HP.out.alloc #[I s2] 3
      have kd := mark_below ((Below.refl vp.heap.size vp).alloc (Nat.le_refl _) (.cells #[I s2] 3)) KD5.out
      generalize World.alloc vp _ = W6 at hn kd ⊢
      generalize vp.heap.size = be at hn ⊢
      have H6 := Lib.hid hn
      have KD6 := Lib.hid kd
      clear hn kd HP KD5
      refine (wpIn_wide (n := 6)).1 ?_
      refine set_loop (fun pre => .cells #[I (fZ (fun p => decide ((ruAt rs p).ex < T.extend)) pre : Nat)] 3) be gh s2 rfl rfl (Blk.lt_of (H6.out.at 0 rfl)) (H6.out.cell 0 0 rfl rfl) (Blk.lt_of (H6.out.at 1 rfl)) (Blk.nd_ne H6.out.apart (i := 0) (j := 1) rfl rfl (by decide)) (fun k => { tmps := #[.agg (T.cells hd).toArray, .agg s.cells.toArray, .agg (runsC rs).toArray, I ask, .pointer (some ⟨gt, 0, none⟩), .pointer (some ⟨gs, 0, none⟩), .pointer (some ⟨gr, 0, none⟩), undef, I 0, .pointer (some ⟨ga, 0, none⟩), undef, undef, .pointer (some ⟨gh, 0, none⟩), I k, .pointer (some ⟨gs, 5, none⟩), I s.sp, .pointer (some ⟨gt, 117, none⟩), I T.budget, .bool false, .agg (T.cells hd).toArray, .agg (T.cells hd).toArray, .agg s.cells.toArray, I ask, I live, .func (.func 37) #[] #[.pointer (some ⟨bs, 0, none⟩), .pointer (some ⟨bo, 0, none⟩)], undef, undef, undef, undef, undef, undef, I asked, .agg (runsC rs).toArray, I gn, I s2, .func (.func 39) #[] #[.pointer (some ⟨be, 0, none⟩)], I k, undef, undef, undef, undef, undef, undef, undef, undef, undef, undef, undef], defers := [] }) (H6.out.at 1 rfl) ?assign2 ?body2 ?done2
      case assign2 =>
        intro l k W K hK
        gi_wp2
        exact hK
      case body2 =>
        intro l pre k W hk hR hg
        obtain ⟨hk0, hk8⟩ := SetM.list_bd s2 k hk
        obtain ⟨p, rfl⟩ := Int.eq_ofNat_of_zero_le hk0
        have hp : p < 8 := by omega
        have hgr : W.heap[gr]? = some (.cells (runsC rs).toArray 41 (0, 0)) := (hg.block gr (Blk.lt_of (H6.out.at 6 rfl)) (fun e => Blk.nd_ne H6.out.apart (i := 6) (j := 1) rfl rfl (by decide) (Option.some.inj e))).trans (H6.out.at 6 rfl)
        have hgt : W.heap[gt]? = some (.cells (T.cells hd).toArray 31 (0, 0)) := (hg.block gt (Blk.lt_of (H6.out.at 8 rfl)) (fun e => Blk.nd_ne H6.out.apart (i := 8) (j := 1) rfl rfl (by decide) (Option.some.inj e))).trans (H6.out.at 8 rfl)
        have c0 : W.cell? ⟨gr, p * 12 + 6, none⟩ = some (I (ruAt rs p).ex) := by
          rw [cell_of_row _ _ _ _ _ _ hgr, List.getElem?_toArray]
          exact runs_at h8 hp rfl
        have c1 : W.cell? ⟨gt, 116, none⟩ = some (I T.extend) := by
          rw [cell_of_row _ _ _ _ _ _ hgt, List.getElem?_toArray]
          exact tab_ex ht
        have q0 : ∀ q : QB.By W.heap.size W, q.world.cell? ⟨gr, p * 12 + 6, none⟩ = some (I (ruAt rs p).ex) := fun q => (q.below.cell (World.block_lt_of_cell? W _ c0)).trans c0
        have q1 : ∀ q : QB.By W.heap.size W, q.world.cell? ⟨gt, 116, none⟩ = some (I T.extend) := fun q => (q.below.cell (World.block_lt_of_cell? W _ c1)).trans c1
        have HR := Lib.hid hR
        clear c0 c1 hgr hgt hR hk hg
        by_cases hx : (ruAt rs p).ex < T.extend
        · have HO := Lib.hid (fZ_hit (f := fun p => decide ((ruAt rs p).ex < T.extend)) (l := pre) (x := (p : Int)) (decide_eq_true hx))
          have dx : decide ((ruAt rs p).ex < T.extend) = true := decide_eq_true hx
          generalize fZ (fun p => decide ((ruAt rs p).ex < T.extend)) pre = m at *
          generalize (ruAt rs p).ex = xe at *
          generalize T.extend = xt at *
          refine wpIn_block (wpIn_seq ?_)
          refine Up.region_below W.heap.size (fun ⟨_, _, h⟩ => h) (by kernel_rfl) (by kernel_rfl) (by kernel_rfl) ?_
          repeat (quiet_step (fail))
          refine wpQuiet_nil ?_
          intro _ hw'
          obtain ⟨pq, rfl⟩ := hw'
          have HB := Lib.hid pq.below
          have hR2 := mark_below pq.below HR.out
          generalize pq.world = W2 at HB hR2 ⊢
          have c2 : W2.cell? ⟨gh, 0, none⟩ = some (I m) := by rw [cell_of_row _ _ _ _ _ _ hR2]; rfl
          have f2 : W2.frozen? ⟨gh, 0, none⟩ = false := frozen_of_row _ _ _ _ _ hR2
          have HR2 := Lib.hid hR2
          clear q0 q1 hx dx hR2 HR
          gi_wp2_with (refine ⟨trivial, ?_⟩; gi_at_call 25; refine (CallsIn.inRound l (callsIn_wide.2 (Set.with_any _ _ _))).mono ?_; rintro e w' ⟨rfl, rfl⟩)
          rw [← HO.out]
          exact ⟨Boxed.set _ (show Boxed W2 gh 3 (I m) from HR2.out), Search.grown_trans (Search.grown_of_below HB.out) (grownBy_setCell' _ _ _)⟩
        · have HO := Lib.hid (fZ_miss (f := fun p => decide ((ruAt rs p).ex < T.extend)) (l := pre) (x := (p : Int)) (decide_eq_false hx))
          have dx : decide ((ruAt rs p).ex < T.extend) = false := decide_eq_false hx
          generalize fZ (fun p => decide ((ruAt rs p).ex < T.extend)) pre = m at *
          generalize (ruAt rs p).ex = xe at *
          generalize T.extend = xt at *
          refine wpIn_block (wpIn_seq ?_)
          refine Up.region_below W.heap.size (fun ⟨_, _, h⟩ => h) (by kernel_rfl) (by kernel_rfl) (by kernel_rfl) ?_
          repeat (quiet_step (fail))
          refine wpQuiet_nil ?_
          intro _ hw'
          obtain ⟨pq, rfl⟩ := hw'
          have HB := Lib.hid pq.below
          have HR2 := Lib.hid (mark_below pq.below HR.out)
          generalize pq.world = W2 at HB HR2 ⊢
          clear q0 q1 hx dx HR
          gi_wp2
          refine ⟨?_, Search.grown_of_below HB.out⟩
          rw [HO.out]
          exact HR2.out
      case done2 =>
        intro D2 W hD2 hR hg hK
        have kd := mark_kept hg KD6.out rfl (H6.out.at 1 rfl) rfl
        have hR' : W.heap[gh]? = some (.cells #[I (res : Nat)] 3) := by rw [← hres]; exact hR
        have hc := Boxed.cell hR'
        have HB : Hid (Below w.heap.size w W) := Lib.hid (H6.out.bel.grown hg H6.out.bel.size (fun k e => by cases e; exact H6.out.ge 1 rfl))
        have LD := (Array.getElem?_eq_some_iff.1 KD6.out).1
        have HD : Hid (w.heap.size ≤ D2 ∧ D ≠ D2) := Lib.hid ⟨by have := H6.out.bel.size; omega, by omega⟩
        have KDW := Lib.hid kd
        clear hg hR hR' kd LD
        go_wp2
        refine ⟨by simp, .inl ⟨_, _, rfl, run_takeDeferred hK, ?_⟩⟩
        have kD := (World.putObj_heap_other (w := W) (k := D) (o := .deferred none) HD.out.2).trans KDW.out
        refine ⟨by simp, .inl ⟨_, _, rfl, run_takeDeferred kD, ?_⟩⟩
        exact ⟨_, results_tmp rfl _ _ _, rfl, (HB.out.trans (belowK_b (w := w) (Nat.le_refl _) _ D2 _ _ HD.out.1 hK rfl rfl)).trans (belowK_b (w := w) (Nat.le_refl _) _ D _ _ GD.out kD rfl rfl)⟩
end Tr
namespace Tr
attribute [local go_sem] Oper.semAt_some
open Go Go.ChangeShapes Go.WideShapes Go.ChangeAt Go.RowKit
open Go.Shelf
open Tab Flat TabArg QL Ru Rg PlanM
theorem early_any (T : Tab) (hd : Hd) (s : Rid) (rs : List Ru) (ask : Int) (w : World) (ht : IsTab w hd T) (db : DB w) (h8 : rs.length = 8) : Calls Tryd.prog 14 #[.agg (T.cells hd).toArray, .agg s.cells.toArray, .agg (runsC rs).toArray, .int .i64 ask] w fun e w' => e = .returned (.int .i64 (earlyS T s rs ask)) ∧ Below w.heap.size w w' := by
  have h1 : (T.cells hd).length = 131 := by have := (cells_ok ht).size; rwa [List.size_toArray] at this
  have IA : (Tryd.prog.info? 31).map (·.size) = some (T.cells hd).length := by rw [h1]; exact May.infoT
  have IR : (Tryd.prog.info? 41).map (·.size) = some (runsC rs).length := by rw [runs_len, h8]; exact infoRs
  obtain ⟨res, hres⟩ : ∃ r, earlyS T s rs ask = r := ⟨_, rfl⟩
  rw [hres]
  unfold earlyS at hres
  obtain ⟨gn, hgn⟩ : ∃ g : Int, (thS grB rs : Nat) = g := ⟨_, rfl⟩
  rw [hgn] at hres
  have GR : Hid (∀ W, Calls Tryd.prog 24 #[.agg (runsC rs).toArray] W fun e w' => e = .returned (.int .i64 gn) ∧ Below W.heap.size W w') := Lib.hid (fun W => by rw [← hgn]; exact green_any rs h8 W)
  obtain ⟨live, hlive⟩ : ∃ l : Int, (liveS T s ask : Nat) = l := ⟨_, rfl⟩
  rw [hlive] at hres
  have hn0 := Blk.Bks.nil w
  have hn1 := hn0.alloc (T.cells hd).toArray 31
  have hn2 := hn1.alloc s.cells.toArray 34
  rw [show (w.alloc (.cells (T.cells hd).toArray 31)).heap.size = w.heap.size + 1 by simp] at hn2
  have hn3 := hn2.alloc (runsC rs).toArray 41
  rw [show ((w.alloc (.cells (T.cells hd).toArray 31)).alloc (.cells s.cells.toArray 34)).heap.size = w.heap.size + 1 + 1 by simp] at hn3
  clear hn0
  clear hn1
  clear hn2
  refine (callsIn_wide (n := 6)).1 ?_
  refine callsIn_of_wp_marks Tryd.func14 rfl trivial ?_ rfl
  simp only [Tryd.ntmps14, List.size_toArray, List.length_cons, List.length_nil, Nat.reduceAdd, Nat.reduceSub, Array.replicate_succ, Array.replicate_zero, List.push_toArray, List.append_toArray, List.nil_append, List.cons_append]
  refine wpIn_wide.2 ?_
  go_upto_region 1 with fail
  generalize World.alloc (World.alloc (World.alloc w _) _) _ = v at hn3 ⊢
  generalize hg2 : w.heap.size + 1 + 1 = gr at hn3 ⊢
  generalize hg1 : w.heap.size + 1 = gs at hn3 ⊢
  generalize hg0 : w.heap.size = gt at hn3 ⊢
  clear hg0 hg1 hg2
  have H0 := Lib.hid hn3
  clear hn3
  go_wp2_with (refine Row.wpList_load_g 41 _ rfl (by first | rfl | (go_simp; done) | fail) ⟨gr, 0, none⟩ rfl (runsC rs) _ (by have := H0.out.lies 0 rfl; simpa using this) Tryd.underlying41 rfl IR ?_)
  refine (GR.out _).mono ?_
  rintro e v1 ⟨rfl, b1⟩
  have H1 := Lib.hid (H0.out.step b1)
  clear b1 H0 GR
  go_upto_region 2 with fail
  have hn := (H1.out.alloc #[I 0] 3).alloc #[I gn] 3
  rw [show (v1.alloc (.cells #[I 0] 3)).heap.size = v1.heap.size + 1 by simp] at hn
  generalize World.alloc (World.alloc v1 _) _ = v2 at hn ⊢
  generalize hgl : v1.heap.size + 1 = gl at hn ⊢
  generalize v1.heap.size = ga at hn ⊢
  clear hgl
  have H2 := Lib.hid hn
  clear hn H1
  have LV : Hid (∀ W, Below v2.heap.size v2 W → Calls Tryd.prog 10 #[.agg (T.cells hd).toArray, .agg s.cells.toArray, .int .i64 ask] W fun e w' => e = .returned (.int .i64 live) ∧ Below W.heap.size W w') := Lib.hid (fun W hb => by rw [← hlive]; exact live_any T hd s ask W (ht.below (H2.out.step hb).bel) (db.below (H2.out.step hb).bel))
  clear hlive
  refine QT.region v2.heap.size 5 (by kernel_rfl) (by kernel_rfl) ?_
  simp only [List.take_succ_cons, List.take_zero]
  repeat first
    | (refine wpQuiet_load rfl 31 _ rfl ⟨gt, 0, none⟩ rfl (T.cells hd) _ (fun w' ⟨pw, e⟩ => by rw [e]; exact seg (H2.out.by pw) 4 0 rfl _ (by simp)) Tryd.underlying31 rfl IA ?_
       dsimp only [Act.put]
       simp only [List.setIfInBounds_toArray, List.set_cons_zero, List.set_cons_succ])
    | (refine wpQuiet_load rfl 34 _ rfl ⟨gs, 0, none⟩ rfl s.cells _ (fun w' ⟨pw, e⟩ => by rw [e]; exact seg (H2.out.by pw) 3 0 rfl _ rfl) Tryd.underlying34 rfl infoRd ?_
       dsimp only [Act.put]
       simp only [List.setIfInBounds_toArray, List.set_cons_zero, List.set_cons_succ])
    | (quiet_step (first | (go_at_call 10; with_reducible exact QB.call_of (Nat.le_refl _) (fun b => LV.out _ b))))
  refine wpQuiet_nil ?_
  intro _ hw'
  obtain ⟨pq, rfl⟩ := hw'
  have HP := Lib.hid (H2.out.by pq)
  generalize pq.world = vp at HP ⊢
  simp only [List.drop_succ_cons, List.drop_zero]
  clear LV H2
  go_wp2_with fail
  refine (callsIn_wide.1 (each_in 6 T hd live _ (ht.below HP.out.bel))).mono ?_
  rintro e vn ⟨rfl, rfl⟩
  go_wp2_with fail
  have hn := ((HP.out.alloc (T.cells hd).toArray 31).alloc #[I live] 3).alloc #[.slice hd.b.a (min T.buses.length 4) hd.b.cap] 29
  rw [show (vp.alloc (.cells (T.cells hd).toArray 31)).heap.size = vp.heap.size + 1 by simp, show ((vp.alloc (.cells (T.cells hd).toArray 31)).alloc (.cells #[I live] 3)).heap.size = vp.heap.size + 2 by simp] at hn
  generalize World.alloc (World.alloc (World.alloc vp _) _) _ = W0 at hn ⊢
  generalize hb2 : vp.heap.size + 2 = bo at hn ⊢
  generalize hb1 : vp.heap.size + 1 = bs at hn ⊢
  generalize vp.heap.size = bt at hn
  clear hb1 hb2 HP
  have H3 := Lib.hid hn
  clear hn
  obtain ⟨hE, hlb⟩ := ea_of H3.out ht db 4 (by decide) rfl rfl rfl
  refine (wpIn_wide (n := 6)).1 ?_
  refine each_loop (fun pre => .cells #[I (eS T.buses gn pre)] 3) bs bo ga live T.buses hd.b rfl rfl hE (Blk.lt_of (H3.out.at 4 rfl)) hlb (fun _ => rfl) (fun k Bx => { tmps := #[.agg (T.cells hd).toArray, .agg s.cells.toArray, .agg (runsC rs).toArray, I ask, .pointer (some ⟨gt, 0, none⟩), .pointer (some ⟨gs, 0, none⟩), .pointer (some ⟨gr, 0, none⟩), undef, I 0, .pointer (some ⟨ga, 0, none⟩), .pointer (some ⟨gl, 0, none⟩), undef, .pointer (some ⟨Bx, 0, none⟩), .agg (runsC rs).toArray, I gn, .agg (T.cells hd).toArray, .agg (T.cells hd).toArray, .agg s.cells.toArray, I ask, I live, .func (.func 37) #[] #[.pointer (some ⟨bs, 0, none⟩), .pointer (some ⟨bo, 0, none⟩)], I k, .agg (busAt T.buses k).cells.toArray, undef, undef, undef, undef, undef, undef, undef, undef, undef, undef, undef], defers := [] }) 53 (fun k => (busAt T.buses k).cells.toArray) (H3.out.at 4 rfl) ?assign ?body ?done
  case assign =>
    intro l k W K hg hK
    have HK := Lib.hid hK
    clear hK
    generalize busAt T.buses k = b at HK ⊢
    refine Up.region_list (fun ⟨_, _, h⟩ => h) (by kernel_rfl) ?_
    go_wp2_with (refine Row.wpList_store_new rfl 53 _ _ rfl W _ b.cells.toArray rfl rfl rfl infoBs rfl (Bs.one _) ?_)
    exact HK.out _ ((Below.refl _ _).alloc (Nat.le_refl _) _) (heap_alloc_new W _)
  case body =>
    intro l pre k Bx W hk hR hg hBx hB
    have hgl : W.heap[gl]? = some (.cells #[I gn] 3 (0, 0)) := (hg.block gl (Blk.lt_of (H3.out.at 3 rfl)) (fun e => Blk.nd_ne H3.out.apart (i := 3) (j := 4) rfl rfl (by decide) (Option.some.inj e))).trans (H3.out.at 3 rfl)
    have c3 : W.cell? ⟨gl, 0, none⟩ = some (I gn) := by rw [cell_of_row _ _ _ _ _ _ hgl]; rfl
    have c1 : W.cell? ⟨ga, 0, none⟩ = some (I (eS T.buses gn pre)) := by rw [cell_of_row _ _ _ _ _ _ hR]; rfl
    have f1 : W.frozen? ⟨ga, 0, none⟩ = false := frozen_of_row _ _ _ _ _ hR
    have c2 : W.cell? ⟨Bx, 0, none⟩ = some (I (busAt T.buses k).set) := by rw [cell_of_row _ _ _ _ _ _ hB]; rfl
    have HR := Lib.hid hR
    clear hR hB hE hlb hg hgl
    by_cases hz : bits .and .i64 (busAt T.buses k).set gn = 0
    · have HO := Lib.hid (eS_hit (bu := T.buses) (gr := gn) (l := pre) (k := k) hz)
      have hz2 : (bits .and .i64 (busAt T.buses k).set gn == 0) = true := beq_iff_eq.2 hz
      generalize eS T.buses gn pre = m at *
      generalize busAt T.buses k = b at *
      clear hz
      refine wpIn_block (wpIn_seq ?_)
      refine Up.region_list (fun ⟨_, _, h⟩ => h) (by kernel_rfl) ?_
      go_wp2_with fail
      gi_wp2
      dsimp only [rpost]
      rw [HO.out]
      exact ⟨Boxed.set _ (show Boxed W ga 3 (I m) from HR.out), grownBy_setCell' _ _ _⟩
    · have HO := Lib.hid (eS_miss (bu := T.buses) (gr := gn) (l := pre) (k := k) hz)
      have hz2 : (bits .and .i64 (busAt T.buses k).set gn == 0) = false := beq_eq_false_iff_ne.2 hz
      generalize eS T.buses gn pre = m at *
      generalize busAt T.buses k = b at *
      clear hz
      refine wpIn_block (wpIn_seq ?_)
      refine Up.region_list (fun ⟨_, _, h⟩ => h) (by kernel_rfl) ?_
      go_wp2_with fail
      gi_wp2
      refine ⟨?_, Search.grown_of_below (Below.refl _ _)⟩
      dsimp only
      rw [HO.out]
      exact HR.out
  case done =>
    intro D W hD hR hg hK
    rw [hres] at hR
    have hc := Boxed.cell hR
    have HB : Hid (Below w.heap.size w W) := Lib.hid (H3.out.bel.grown hg H3.out.bel.size (fun k e => by cases e; exact H3.out.ge 4 rfl))
    have HD : Hid (w.heap.size ≤ D) := Lib.hid (by have := H3.out.bel.size; omega)
    clear hg hR hE hlb
    go_wp2
    refine ⟨by simp, .inl ⟨_, _, rfl, run_takeDeferred hK, ?_⟩⟩
    exact ⟨_, results_tmp rfl _ _ _, rfl, HB.out.trans (belowK_b (w := w) (Nat.le_refl _) _ D _ _ HD.out hK rfl rfl)⟩
end Tr
namespace Tr
attribute [local go_sem] Oper.semAt_some
open Go Go.ChangeShapes Go.WideShapes Go.ChangeAt Go.RowKit
open Clone (zTab zHd)
open Tab Flat TabArg QL Ru Rg PlanM
def awT : Tab := { zTab with buses := [⟨2, 5⟩], extend := 3, budget := 9 }
def awH (g : Nat) : Hd := ⟨⟨none, 0⟩, ⟨none, 0⟩, ⟨none, 0⟩, ⟨some ⟨g, 0, none⟩, 1⟩⟩
theorem builtA (g : Nat) : Tryd.prog.built 31 [(5, .slice (some ⟨g, 0, none⟩) 1 1), (6, I 3), (7, I 9)] = some (awT.cells (awH g)).toArray := by kernel_rfl
theorem aw_is {w : World} {g : Nat} (hg : w.heap[g]? = some (.cells #[I 2, I 5] 53 (0, 0))) : IsTab w (awH g) awT :=
  ⟨rfl, rfl, rfl, ⟨[], rfl, RowOf.nil w, fun g hg => by simp at hg⟩, RowOf.nil w, RowOf.nil w, by
    have := Copy.row_of_block (enc := Bs.cells) (n := 2) (fun _ => rfl) [⟨2, 5⟩] (w := w) (g := g) (t := 53) (fr := (0, 0)) hg (by decide)
    exact this⟩
def rz : List Ru := List.replicate 8 zRu
def r1 : List Ru := rz.set 0 ⟨1, 0, 0, 0, 0, 0, 0, false, false, 0, 0, 0⟩
def r2 : List Ru := r1.set 1 ⟨1, 0, 0, 0, 0, 0, 0, false, false, 0, 0, 0⟩
theorem e1 : earlyS awT ⟨0, 0, 0, 0, 0, 0⟩ r1 1 = 253 := by decide +kernel
theorem e2 : holdS awT ⟨0, 0, 0, 0, 0, 0⟩ r2 1 = 2 := by decide +kernel
theorem e3 : liveS awT ⟨0, 0, 0, 0, 0, 0⟩ 3 = 1 := by decide +kernel
theorem s1 : (runsC rz).toArray.setIfInBounds 0 (I 1) = (runsC r1).toArray := rfl
theorem s2 : (runsC r1).toArray.setIfInBounds 12 (I 1) = (runsC r2).toArray := rfl
theorem awake_any (w : World) (db : DB w) : Calls Tryd.prog 9 #[] w fun e w' => e = .returned (.bool true) ∧ Below w.heap.size w w' := by
  have hz := (zero_of_info Clone.info31).1
  have hzr := (zero_of_info (show (Tryd.prog.info? 41).map (fun i => (i.zero, i.size)) = some (some (.agg (runsC rz).toArray), 96) by kernel_rfl)).1
  have ZS : (zTab.cells zHd).toArray.size = 131 := (cells_ok (Clone.z_is w)).size
  generalize hZ : (zTab.cells zHd).toArray = Z at hz ZS
  have BA := Lib.hid builtA
  have AL : (awT.cells (awH w.heap.size)).toArray.size = 131 := rfl
  have AO : (awT.cells (awH w.heap.size)).toArray.all (·.oneCell') = true := (cells_ok (aw_is (heap_alloc_new w _))).one
  have hz0 := ((Blk.Bks.nil w).alloc #[I 2, I 5] 53).alloc Z 31
  rw [show (w.alloc (.cells #[I 2, I 5] 53)).heap.size = w.heap.size + 1 by simp] at hz0
  have HZ0 := Lib.hid hz0
  clear hz0
  have C1 := Lib.hid s1
  have C2 := Lib.hid s2
  have EA1 : Hid (∀ W g, IsTab W (awH g) awT → DB W → Calls Tryd.prog 14 #[.agg (awT.cells (awH g)).toArray, .agg #[I 0, I 0, I 0, I 0, I 0, I 0], .agg (runsC r1).toArray, .int .i64 1] W fun e w' => e = .returned (.int .i64 253) ∧ Below W.heap.size W w') := Lib.hid (fun W g ht db => by have h := early_any awT (awH g) ⟨0, 0, 0, 0, 0, 0⟩ r1 1 W ht db rfl; rwa [e1] at h)
  have EA2 : Hid (∀ W g, IsTab W (awH g) awT → DB W → Calls Tryd.prog 12 #[.agg (awT.cells (awH g)).toArray, .agg #[I 0, I 0, I 0, I 0, I 0, I 0], .agg (runsC r2).toArray, .int .i64 1] W fun e w' => e = .returned (.int .i64 2) ∧ Below W.heap.size W w') := Lib.hid (fun W g ht db => by have h := hold_any awT (awH g) ⟨0, 0, 0, 0, 0, 0⟩ r2 1 W ht db rfl; rwa [e2] at h)
  have EA3 : Hid (∀ W g, IsTab W (awH g) awT → DB W → Calls Tryd.prog 10 #[.agg (awT.cells (awH g)).toArray, .agg #[I 0, I 0, I 0, I 0, I 0, I 0], .int .i64 3] W fun e w' => e = .returned (.int .i64 1) ∧ Below W.heap.size W w') := Lib.hid (fun W g ht db => by have h := live_any awT (awH g) ⟨0, 0, 0, 0, 0, 0⟩ 3 W ht db; rwa [e3] at h)
  have IR1 : (Tryd.prog.info? 41).map (·.size) = some (runsC r1).length := by rw [runs_len]; exact infoRs
  have IR2 : (Tryd.prog.info? 41).map (·.size) = some (runsC r2).length := by rw [runs_len]; exact infoRs
  have R0 : (runsC rz).toArray[0]? = some (I 0) := rfl
  have R1 : (runsC r1).toArray[12]? = some (I 0) := rfl
  generalize hcz : (runsC rz).toArray = rcz at *
  generalize runsC r1 = rc1 at *
  generalize runsC r2 = rc2 at *
  clear hcz
  go_enter Tryd.func9, Tryd.ntmps9
  go_upto_region 2 with (first | (refine Ru.wpList_build rfl 31 [(5, .tmp 5), (6, .const (I 3)), (7, .const (I 9))] rfl (awT.cells (awH w.heap.size)).toArray _ (by rfl) (BA.out _) ?_) | (refine wpList_store_row rfl 31 _ _ rfl (w.heap.size + 1) (awT.cells (awH w.heap.size)).toArray rfl rfl 31 Z (HZ0.out.at 0 rfl) May.infoT (by rw [ZS, AL]) AO ?_))
  have h0 := HZ0.out.put 0 rfl (awT.cells (awH w.heap.size)).toArray
  simp only [List.set_cons_zero] at h0
  generalize World.setRow _ _ _ = u at h0 ⊢
  clear HZ0 hz ZS hZ BA AL AO
  generalize hgt : w.heap.size + 1 = gt at h0 ⊢
  generalize w.heap.size = gd at h0 ⊢
  clear hgt
  have H0 := Lib.hid h0
  have IA : (Tryd.prog.info? 31).map (·.size) = some (awT.cells (awH gd)).length := May.infoT
  have HT : Hid (∀ W, Below u.heap.size u W → IsTab W (awH gd) awT) := Lib.hid (fun W hb => aw_is ((H0.out.step hb).at 1 rfl))
  have HDB : Hid (∀ W, Below u.heap.size u W → DB W) := Lib.hid (fun W hb => (db.below H0.out.bel).below hb)
  clear h0
  go_upto_region 3 with fail
  have hn := H0.out.alloc rcz 41
  generalize World.alloc u _ = u1 at hn ⊢
  generalize u.heap.size = gr at hn ⊢
  have H1 := Lib.hid hn
  clear hn H0 HT HDB hzr
  have k0 : u1.cell? ⟨gr, 0, none⟩ = some (I 0) := H1.out.cell 0 0 rfl R0
  have f0 : u1.frozen? ⟨gr, 0, none⟩ = false := H1.out.frozen 0 0 rfl
  go_upto_region 4 with fail
  have hput := H1.out.set 0 0 rfl (I 1)
  rw [C1.out] at hput
  simp only [List.set_cons_succ, List.set_cons_zero] at hput
  generalize World.setCell u1 _ _ = u2 at hput ⊢
  have H2 := Lib.hid hput
  clear hput H1 k0 f0
  go_wp2_with (first | (refine Row.wpList_load_g 31 _ rfl (by first | rfl | (go_simp; done) | fail) ⟨gt, 0, none⟩ rfl (awT.cells (awH gd)) _ (by have := H2.out.lies 1 rfl; simpa using this) Tryd.underlying31 rfl IA ?_) | (refine Row.wpList_load_g 41 _ rfl (by first | rfl | (go_simp; done) | fail) ⟨gr, 0, none⟩ rfl rc1 _ (by have := H2.out.lies 0 rfl; simpa using this) Tryd.underlying41 rfl IR1 ?_))
  refine (EA1.out _ gd (aw_is (H2.out.at 2 rfl)) (db.below H2.out.bel)).mono ?_
  rintro e u3 ⟨rfl, b3⟩
  have H3 := Lib.hid (H2.out.step b3)
  clear b3 H2 EA1
  have k1 : u3.cell? ⟨gr, 12, none⟩ = some (I 0) := H3.out.cell 0 12 rfl R1
  have f1 : u3.frozen? ⟨gr, 12, none⟩ = false := H3.out.frozen 0 12 rfl
  go_upto_region 6 with fail
  have hput := H3.out.set 0 12 rfl (I 1)
  rw [C2.out] at hput
  simp only [List.set_cons_succ, List.set_cons_zero] at hput
  generalize World.setCell u3 _ _ = u4 at hput ⊢
  have H4 := Lib.hid hput
  clear hput H3 k1 f1
  go_wp2_with (first | (refine Row.wpList_load_g 31 _ rfl (by first | rfl | (go_simp; done) | fail) ⟨gt, 0, none⟩ rfl (awT.cells (awH gd)) _ (by have := H4.out.lies 1 rfl; simpa using this) Tryd.underlying31 rfl IA ?_) | (refine Row.wpList_load_g 41 _ rfl (by first | rfl | (go_simp; done) | fail) ⟨gr, 0, none⟩ rfl rc2 _ (by have := H4.out.lies 0 rfl; simpa using this) Tryd.underlying41 rfl IR2 ?_))
  refine (EA2.out _ gd (aw_is (H4.out.at 2 rfl)) (db.below H4.out.bel)).mono ?_
  rintro e u5 ⟨rfl, b5⟩
  have H5 := Lib.hid (H4.out.step b5)
  clear b5 H4 EA2
  go_wp2_with (refine Row.wpList_load_g 31 _ rfl (by first | rfl | (go_simp; done) | fail) ⟨gt, 0, none⟩ rfl (awT.cells (awH gd)) _ (by have := H5.out.lies 1 rfl; simpa using this) Tryd.underlying31 rfl IA ?_)
  refine (EA3.out _ gd (aw_is (H5.out.at 2 rfl)) (db.below H5.out.bel)).mono ?_
  rintro e u6 ⟨rfl, b6⟩
  have H6 := Lib.hid (H5.out.step b6)
  clear b6 H5 EA3
  go_wp2
  go_ret
  exact ⟨rfl, H6.out.bel⟩
theorem light_any (T : Tab) (hd : Hd) (w : World) (ht : IsTab w hd T) : Calls Tryd.prog 8 #[.agg (T.cells hd).toArray] w fun e w' => e = .returned (.bool (decide (T.buses.length ≤ 8))) ∧ Below w.heap.size w w' := by
  have hb := ht.buses.len
  unfold maxLen at hb
  have h1 : (T.cells hd).length = 131 := by have := (cells_ok ht).size; rwa [List.size_toArray] at this
  have hcb := tab_bu ht
  generalize T.cells hd = tc at *
  generalize T.buses.length = bl at *
  clear ht
  have hn0 := Blk.Bks.nil w
  have hn1 := hn0.alloc tc.toArray 31
  clear hn0
  go_enter Tryd.func8, Tryd.ntmps8
  go_upto_region 1 with fail
  generalize World.alloc w _ = v at hn1 ⊢
  generalize hg0 : w.heap.size = gt at hn1 ⊢
  clear hg0
  have H0 := Lib.hid hn1
  clear hn1
  have k5 : v.cell? ⟨gt, 115, none⟩ = some (.slice hd.b.a bl hd.b.cap) := H0.out.cell 0 115 rfl (by rw [List.getElem?_toArray]; exact hcb)
  by_cases h8 : bl ≤ 8
  · have e1 : ((bl : Int) ≤ 8) := by omega
    go_wp2
    go_ret
    exact ⟨by first | rfl | (rw [decide_eq_true h8]; rfl) | (rw [decide_eq_false h8]; rfl), H0.out.bel⟩
  · have e1 : ¬ ((bl : Int) ≤ 8) := by omega
    go_wp2
    go_ret
    exact ⟨by first | rfl | (rw [decide_eq_true h8]; rfl) | (rw [decide_eq_false h8]; rfl), H0.out.bel⟩
end Tr
namespace Tr
attribute [local go_sem] Oper.semAt_some
open Go Go.ChangeShapes Go.WideShapes Go.ChangeAt Go.RowKit
open Tab Flat TabArg QL Ru Rg PlanM
theorem rbit_any (s : Int) (k : Nat) (hk : k < 8) (w : World) : Calls Tryd.prog 22 #[.int .i64 s, .int .i64 k] w fun e w' => e = .returned (.bool (SetM.has s k)) ∧ w = w' := by
  have SH := SetM.has_shr s k hk
  have h64 : (k : Int) < 64 := by omega
  cases hh : SetM.has s k
  · rw [hh, if_neg (by simp)] at SH
    have SH2 : (bits .and .i64 (s / 2 ^ k) 1 == 1) = false := by rw [SH]; rfl
    go_enter Tryd.func22, Tryd.ntmps22
    go_wp2
    go_ret
    exact ⟨rfl, rfl⟩
  · rw [hh, if_pos rfl] at SH
    have SH2 : (bits .and .i64 (s / 2 ^ k) 1 == 1) = true := by rw [SH]; rfl
    go_enter Tryd.func22, Tryd.ntmps22
    go_wp2
    go_ret
    exact ⟨rfl, rfl⟩
theorem rbit_is {s : Int} {k : Nat} (hk : k < 8) {b : Bool} (hb : SetM.has s k = b) (w : World) : Calls Tryd.prog 22 #[.int .i64 s, .int .i64 k] w fun e w' => e = .returned (.bool b) ∧ w = w' := hb ▸ rbit_any s k hk w
def nB (bu : List Bs) : Nat := min bu.length 4
theorem eL_range (s : Int) (bu : List Bs) : eL s bu = (List.range (nB bu)).filter fun k : Nat => SetM.has s k := by
  unfold eL bitsOf nB
  have hm : min bu.length 4 ≤ 4 := Nat.min_le_right _ _
  generalize min bu.length 4 = m at hm ⊢
  have e : ∀ k : Nat, (setOf s m).testBit k = (decide (k < m) && SetM.has s k) := fun k => by
    unfold setOf
    rw [Nat.testBit_and, Nat.testBit_two_pow_sub_one, SetM.has_nat, Bool.and_comm]
  rw [show (List.range 4).filter (fun k => (setOf s m).testBit k) = (List.range 4).filter (fun k : Nat => decide (k < m) && SetM.has s k) from List.filter_congr (fun k _ => e k)]
  match m, hm with
  | 0, _ => simp
  | 1, _ => simp [List.range_succ, List.filter_cons]
  | 2, _ => simp [List.range_succ, List.filter_cons]
  | 3, _ => simp [List.range_succ, List.filter_cons]
  | 4, _ => simp [List.range_succ, List.filter_cons]
theorem fN_eL (f : Nat → Bool) (s : Int) (bu : List Bs) : fN f (eL s bu) = fN (fun k : Nat => SetM.has s k && f k) (List.range (nB bu)) := by
  rw [eL_range]
  unfold fN
  rw [List.filter_filter]
  congr 3
  funext k
  rw [Bool.and_comm]
theorem fold_eL {α : Type} (f : α → Nat → α) (a : α) (s : Int) (bu : List Bs) : (eL s bu).foldl f a = (List.range (nB bu)).foldl (fun a (k : Nat) => if SetM.has s k then f a k else a) a := by
  rw [eL_range, List.foldl_filter]
theorem nB_way {bu : List Bs} {q : Nat} (hq : q ≤ nB bu) : (q < bu.length ∧ q < 4 ∧ q < nB bu) ∨ (q = nB bu ∧ ¬ q < bu.length) ∨ (q = nB bu ∧ q < bu.length ∧ q = 4) := by
  unfold nB at *
  omega
end Tr
namespace Tr
attribute [local go_sem] Oper.semAt_some
open Go Go.ChangeShapes Go.WideShapes Go.ChangeAt Go.RowKit
open Tab Flat TabArg QL Ru Rg PlanM
theorem rlive_any (T : Tab) (hd : Hd) (s : Rid) (ask : Int) (w : World) (ht : IsTab w hd T) : Calls Tryd.prog 11 #[.agg (T.cells hd).toArray, .agg s.cells.toArray, .int .i64 ask] w fun e w' => e = .returned (.int .i64 (liveS T s ask : Nat)) ∧ Below w.heap.size w w' := by
  have h1 : (T.cells hd).length = 131 := by have := (cells_ok ht).size; rwa [List.size_toArray] at this
  have IA : (Tryd.prog.info? 31).map (·.size) = some (T.cells hd).length := by rw [h1]; exact May.infoT
  have HL : Hid (liveS T s ask = fN (fun k : Nat => SetM.has ask k && decide (s.lk k ≤ 0)) (List.range (nB T.buses))) := Lib.hid (by unfold liveS; rw [fN_eL])
  generalize liveS T s ask = res at HL ⊢
  have NW : Hid (∀ q, q ≤ nB T.buses → (q < T.buses.length ∧ q < 4 ∧ q < nB T.buses) ∨ (q = nB T.buses ∧ ¬ q < T.buses.length) ∨ (q = nB T.buses ∧ q < T.buses.length ∧ q = 4)) := Lib.hid (fun q h => nB_way h)
  have hcb := tab_bu ht
  generalize nB T.buses = m at *
  generalize T.buses.length = bl at *
  have hn0 := Blk.Bks.nil w
  have hn1 := hn0.alloc (T.cells hd).toArray 31
  have hn2 := hn1.alloc s.cells.toArray 34
  rw [show (w.alloc (.cells (T.cells hd).toArray 31)).heap.size = w.heap.size + 1 by simp] at hn2
  clear hn0
  clear hn1
  go_enter Tryd.func11, Tryd.ntmps11
  go_upto_region 2 with fail
  generalize World.alloc (World.alloc w _) _ = v at hn2 ⊢
  generalize hg1 : w.heap.size + 1 = gs at hn2 ⊢
  generalize hg0 : w.heap.size = gt at hn2 ⊢
  clear hg0 hg1
  have H0 := Lib.hid hn2
  clear hn2
  have KB : Hid (∀ W, Below v.heap.size v W → W.cell? ⟨gt, 115, none⟩ = some (.slice hd.b.a bl hd.b.cap)) := Lib.hid (fun W hb => (H0.out.step hb).cell 1 115 rfl (by rw [List.getElem?_toArray]; exact hcb))
  have KL : Hid (∀ W, Below v.heap.size v W → ∀ k, k < 4 → W.cell? ⟨gs, k, none⟩ = some (I (s.lk k))) := Lib.hid (fun W hb k hk => (H0.out.step hb).cell 0 k rfl (by rw [List.getElem?_toArray]; exact lk_at s hk))
  clear hcb
  go_wp2
  go_loopw [7, 8] (fun n k wr => ∃ q : Nat, q ≤ m ∧ k = .int .i64 q ∧ n = .int .i64 (fN (fun k : Nat => SetM.has ask k && decide (s.lk k ≤ 0)) (List.range q) : Nat) ∧ Below v.heap.size v wr) (fun _ k _ => m - (intOf k).toNat)
  case atStart => exact ⟨0, Nat.zero_le _, rfl, rfl, Below.refl _ _⟩
  case round =>
    obtain ⟨q, hq, rfl, rfl, hbel⟩ := hrel
    have HB := Lib.hid hbel
    have cb := KB.out wr hbel
    clear hbel
    rcases NW.out q hq with ⟨h1, h2, h3⟩ | ⟨h1, h2⟩ | ⟨h1, h2, h3⟩
    · have g1 : (q : Int) < (bl : Int) := by omega
      have g2 : (q : Int) < 4 := by omega
      have g3 : (q : Int) < 64 := by omega
      have cl := KL.out wr HB.out q h2
      have HS : Hid (List.range (q + 1) = List.range q ++ [q]) := Lib.hid List.range_succ
      cases hh : SetM.has ask q
      · have HO : Hid (fN (fun k : Nat => SetM.has ask k && decide (s.lk k ≤ 0)) (List.range (q + 1)) = fN (fun k : Nat => SetM.has ask k && decide (s.lk k ≤ 0)) (List.range q)) := Lib.hid (by rw [HS.out]; exact fN_miss (by simp [hh]))
        have HB1 := Lib.hid (fun w => rbit_is (show q < 8 by omega) hh w)
        generalize fN (fun k : Nat => SetM.has ask k && decide (s.lk k ≤ 0)) (List.range q) = n0 at HO ⊢
        clear hh HS
        go_wp2_with (go_at_call 22; with_reducible refine (HB1.out _).mono ?_; rintro e w' ⟨rfl, rfl⟩)
        go_roundw
        case rel => exact ⟨q + 1, by omega, by go_num, by rw [HO.out], HB.out⟩
        case measure => simp [intOf]; omega
      · have HB1 := Lib.hid (fun w => rbit_is (show q < 8 by omega) hh w)
        by_cases hl : s.lk q ≤ 0
        · have HO : Hid (bits .or .i64 (fN (fun k : Nat => SetM.has ask k && decide (s.lk k ≤ 0)) (List.range q) : Nat) (wrap64 ((2 : Int) ^ q)) = (fN (fun k : Nat => SetM.has ask k && decide (s.lk k ≤ 0)) (List.range (q + 1)) : Nat)) := Lib.hid (by rw [HS.out]; exact fN_or (by simp [hh, hl]) (by omega))
          generalize ((fN (fun k : Nat => SetM.has ask k && decide (s.lk k ≤ 0)) (List.range q) : Nat) : Int) = n0 at HO ⊢
          clear hh HS
          go_wp2_with (go_at_call 22; with_reducible refine (HB1.out _).mono ?_; rintro e w' ⟨rfl, rfl⟩)
          go_roundw
          case rel => exact ⟨q + 1, by omega, by go_num, by rw [← HO.out], HB.out⟩
          case measure => simp [intOf]; omega
        · have HO : Hid (fN (fun k : Nat => SetM.has ask k && decide (s.lk k ≤ 0)) (List.range (q + 1)) = fN (fun k : Nat => SetM.has ask k && decide (s.lk k ≤ 0)) (List.range q)) := Lib.hid (by rw [HS.out]; exact fN_miss (by simp [hl]))
          generalize fN (fun k : Nat => SetM.has ask k && decide (s.lk k ≤ 0)) (List.range q) = n0 at HO ⊢
          clear hh HS
          go_wp2_with (go_at_call 22; with_reducible refine (HB1.out _).mono ?_; rintro e w' ⟨rfl, rfl⟩)
          go_roundw
          case rel => exact ⟨q + 1, by omega, by go_num, by rw [HO.out], HB.out⟩
          case measure => simp [intOf]; omega
    · have g1 : ¬ (q : Int) < (bl : Int) := by omega
      rw [h1, ← HL.out]
      rw [h1] at g1
      clear h1 h2 hq
      go_wp2
      go_ret
      exact ⟨rfl, H0.out.bel.trans (HB.out.mono H0.out.bel.size)⟩
    · have g1 : (q : Int) < (bl : Int) := by omega
      have g2 : ¬ (q : Int) < 4 := by omega
      rw [h1, ← HL.out]
      rw [h1] at g1 g2
      clear h1 h2 hq h3
      go_wp2
      go_ret
      exact ⟨rfl, H0.out.bel.trans (HB.out.mono H0.out.bel.size)⟩
end Tr
namespace PlanW
open Go.ChangeShapes Go.WideShapes Go.ChangeAt Go.RowKit
open Tab PlaceM PlanM
open May (ret_bool chain infoP infoG St)
open SetP (has_any)
end PlanW
namespace Same
open Go.ChangeShapes Go.WideShapes Go.ChangeAt Go.RowKit
open Tab
open May (ret_bool chain take_succ' infoP infoG infoD infoR infoB row_new)
end Same
namespace Same
open Go.ChangeShapes Go.WideShapes Go.ChangeAt Go.RowKit
open Tab
open May (ret_bool chain take_succ' infoP infoG infoD infoR infoB row_new)
end Same
namespace Same
open Go.ChangeShapes Go.WideShapes Go.ChangeAt Go.RowKit
open Tab
open May (ret_bool chain take_succ' infoP infoG infoD infoR infoB row_new St)
theorem below_setRow {B : Nat} {a w : World} (h : Below B a w) {g : Nat} (hg : B ≤ g) (cs : Array Value) : Below B a (w.setRow g cs) :=
  h.trans ⟨rfl, rfl, rfl, by simp [World.setRow], fun j hj => setRow_other _ _ _ _ (by omega)⟩
end Same
namespace PlanC
open Go.ChangeShapes Go.WideShapes Go.ChangeAt Go.RowKit
open Tab PlaceM PlanM
open May (ret_bool chain infoP infoG St phases_in)
open SetP (has_any)
open Same (below_setRow)
end PlanC
namespace PlanN
open Go.ChangeShapes Go.WideShapes Go.ChangeAt Go.RowKit
open Tab PlaceM PlanM PlanC
open May (infoP St)
open SetP (has_any)
end PlanN
namespace Rg
open Go Go.ChangeShapes Go.WideShapes Go.ChangeAt Go.RowKit
open Tab Flat TabArg QL Ru PlanM
open ChkM (cfAt)
open Clear (phAt)
open PlaceM (where_ spots Spt)
open May (infoP)
end Rg
namespace GenG
open Go.ChangeShapes Go.WideShapes Go.ChangeAt Go.RowKit
open Tab Gath
open RefS (num from_any num_range ret_int)
/-- m phases from p on. -/
def seg (p m : Nat) : List Int := (List.range m).map fun i => ((p + i : Nat) : Int)
theorem seg_len (p m : Nat) : (seg p m).length = m := by simp [seg]
theorem seg_succ (p m : Nat) : seg p (m + 1) = seg p m ++ [((p + m : Nat) : Int)] := by unfold seg; rw [List.range_succ, List.map_append]; rfl
def lim (G g : Nat) : Nat := 9 + g - G
def want0 (L : List Int) (g : Nat) : Nat := (num L (1 + 2 * g) 3).toNat
def want1 (L : List Int) (g : Nat) (m : Nat) : Nat := if num L (2 + 2 * g) 3 = 0 ∧ m = 0 then 1 else (num L (2 + 2 * g) 3).toNat
def n0 (L : List Int) (G g p : Nat) : Nat := min (want0 L g) (lim G g - p)
def n1 (L : List Int) (G g p : Nat) : Nat := min (want1 L g (n0 L G g p)) (lim G g - (p + n0 L G g p))
def grpD (L : List Int) (G g p : Nat) : List Int × List Int := (seg p (n0 L G g p), seg (p + n0 L G g p) (n1 L G g p))
def upTo (L : List Int) (G : Nat) : Nat → List (List Int × List Int) × Nat
  | 0 => ([], 0)
  | g + 1 => ((upTo L G g).1 ++ [grpD L G g (upTo L G g).2], (upTo L G g).2 + n0 L G g (upTo L G g).2 + n1 L G g (upTo L G g).2)
def genG (L : List Int) : Nat := (1 + num L 0 3).toNat
def genGs (L : List Int) : List (List Int × List Int) := (upTo L (genG L) (genG L)).1
theorem up_len (L : List Int) (G : Nat) : ∀ g, (upTo L G g).1.length = g
  | 0 => rfl
  | g + 1 => by show ((upTo L G g).1 ++ [_]).length = g + 1; rw [List.length_append, up_len L G g]; rfl
/-- A row of integers, in a block of integers. -/
def RowI (w : World) (s : Sl) (l : List Int) : Prop := IntRow w s l ∧ ∀ x, s.a = some x → ∃ cs : Array Value, w.heap[x.block]? = some (.cells cs 3 (0, 0))
theorem RowI.below {w w' : World} {s : Sl} {l : List Int} (h : RowI w s l) (hb : Below w.heap.size w w') : RowI w' s l := ⟨h.1.below hb, fun x hx => by
  obtain ⟨cs, hc⟩ := h.2 x hx
  exact ⟨cs, (hb.block _ (Array.getElem?_eq_some_iff.1 hc).1).trans hc⟩⟩
theorem add_block (x : Addr) (k : Nat) : (x.add k).block = x.block := by unfold Addr.add; split <;> rfl
theorem RowI.grown {w w' : World} {s : Sl} {l : List Int} {row : Option Nat} (h : RowI w s l) (hg : w.grownBy w' row) (hne : ∀ x, s.a = some x → some x.block ≠ row) : RowI w' s l := by
  refine ⟨?_, fun x hx => ?_⟩
  · rcases h.1 with h | ⟨x, h1, h2, h3, h4⟩
    · exact .inl h
    · exact .inr ⟨x, h1, h2, h3, fun i v hv j u hu => hg.cell (h4 i v hv j u hu) (by rw [add_block, add_block]; exact hne x h1)⟩
  · obtain ⟨cs, hc⟩ := h.2 x hx
    exact ⟨cs, (hg.block _ (Array.getElem?_eq_some_iff.1 hc).1 (hne x hx)).trans hc⟩
/-- It lies in another block than one of another type. -/
theorem RowI.ne {w : World} {s : Sl} {l : List Int} {b : Nat} {cs : Array Value} {t : TypeId} (h : RowI w s l) (hb : w.heap[b]? = some (.cells cs t (0, 0))) (ht : t ≠ 3) : ∀ x, s.a = some x → x.block ≠ b := by
  intro x hx e
  obtain ⟨ds, hc⟩ := h.2 x hx
  rw [e, hb] at hc
  simp at hc
  exact ht hc.2
theorem grown_set (W : World) (b i : Nat) (v : Value) : W.grownBy (W.setCell ⟨b, i, none⟩ v) (some b) :=
  ⟨rfl, rfl, rfl, by simp, fun j _ hj => heap_setCell_other _ _ _ _ (fun e => hj (by rw [e]))⟩
theorem own_row {B : Nat} {w : World} {v : Value} {l : List Int} (h : Owns (fun n => [I n]) 1 B w 3 v l) : ∃ s : Sl, v = s.val l.length ∧ RowI w s l := by
  obtain ⟨s, hs, hr⟩ := Owns.row h (enc := fun n => [I n]) (fun _ => rfl)
  refine ⟨s, hs, hr, fun x hx => ?_⟩
  rcases h.2 with ⟨e, _⟩ | ⟨g, cap, cur, e, h1, h2, _⟩
  · rw [hs] at e
    simp [Sl.val, hx] at e
  · rw [hs] at e
    simp [Sl.val, hx] at e
    obtain ⟨rfl, _⟩ := e
    exact ⟨cur, h2⟩
theorem own_kept {α : Type} {enc : α → List Value} {n B : Nat} {w w' : World} {t : TypeId} {v : Value} {l : List α} {row : Option Nat} (h : Owns enc n B w t v l) (hg : w.grownBy w' row) (hne : ∀ m, v.ownBlock = some m → row ≠ some m) : Owns enc n B w' t v l :=
  World.ownsRow.kept h hg (by
    cases e : v.ownBlock with
    | none => exact .inl rfl
    | some m => exact .inr (fun e' => hne m e e'.symm))
theorem own_type {α : Type} {enc : α → List Value} {n B : Nat} {w : World} {t : TypeId} {v : Value} {l : List α} (h : Owns enc n B w t v l) : ∀ m, v.ownBlock = some m → ∃ cs : Array Value, w.heap[m]? = some (.cells cs t (0, 0)) := by
  intro m hm
  rcases h.2 with ⟨rfl, _⟩ | ⟨g, cap, cur, rfl, h1, h2, _⟩
  · simp [Value.ownBlock] at hm
  · simp [Value.ownBlock] at hm
    subst hm
    exact ⟨cur, h2⟩
theorem own_ne {α : Type} {enc : α → List Value} {n B : Nat} {w : World} {t t' : TypeId} {v : Value} {l : List α} {b : Nat} {cs : Array Value} (h : Owns enc n B w t v l) (hb : w.heap[b]? = some (.cells cs t' (0, 0))) (ht : t' ≠ t) : v.ownBlock ≠ some b := by
  intro e
  obtain ⟨ds, hd⟩ := own_type h b e
  rw [hb] at hd
  simp at hd
  exact ht hd.2
theorem grown_below {w w' : World} (hb : Below w.heap.size w w') (row : Option Nat) : w.grownBy w' row := ⟨hb.os, hb.tape, hb.output, hb.size, fun j hj _ => hb.block j hj⟩
theorem grown_trans {w w1 w2 : World} {b : Nat} {row : Option Nat} (h : w.grownBy w1 (some b)) (h2 : w1.grownBy w2 row) (hr : ∀ m, row = some m → m = b ∨ w.heap.size ≤ m) : w.grownBy w2 (some b) := by
  refine ⟨h2.os.trans h.os, h2.tape.trans h.tape, h2.output.trans h.output, Nat.le_trans h.size h2.size, fun j hj hne => ?_⟩
  rw [h2.block j (Nat.lt_of_lt_of_le hj h.size) (fun e => by rcases hr j e.symm with e' | e'; exact hne (by rw [e']); omega), h.block j hj hne]
/-- One group while its first row is filled. -/
structure G0 (Bg : Nat) (w1 : World) (a : Option Addr) (c : Nat) (p i : Nat) (W : World) : Prop where
  bel : Below Bg w1 W
  box : W.heap[Bg]? = some (.cells #[.slice a i c, .slice none 0 0] 86 (0, 0))
  own : Owns (fun n => [I n]) 1 (Bg + 1) W 3 (.slice a i c) (seg p i)
theorem G0.step {Bg : Nat} {w1 W W' : World} {a : Option Addr} {c p i : Nat} (h : G0 Bg w1 a c p i W) (hb : Below W.heap.size W W') (hB : Bg ≤ W.heap.size) : G0 Bg w1 a c p i W' :=
  ⟨h.bel.trans (hb.mono hB), (hb.block _ (Array.getElem?_eq_some_iff.1 h.box).1).trans h.box, h.own.below hb⟩
theorem G0.put {Bg : Nat} {w1 W W' : World} {a : Option Addr} {c p i : Nat} {v' : Value} (h : G0 Bg w1 a c p i W) (hB : Bg + 1 ≤ W.heap.size) (hg : W.grownBy W' (Value.slice a i c).ownBlock)
    (ho : W'.ownsRow (Bg + 1) 3 1 v' (i + 1) ((seg p i).flatMap (fun n => [I n]) ++ [I ((p + i : Nat) : Int)])) :
    (W'.heap[Bg]? = some (.cells #[.slice a i c, .slice none 0 0] 86 (0, 0))) ∧ ∃ a' c', v' = .slice a' (i + 1) c' ∧ G0 Bg w1 a' c' p (i + 1) (W'.setCell ⟨Bg, 0, none⟩ v') := by
  have hne : some Bg ≠ (Value.slice a i c).ownBlock := fun e => by have := h.own.blk _ e.symm; omega
  have hbx := (hg.block Bg (by omega) hne).trans h.box
  have hO : Owns (fun n => [I n]) 1 (Bg + 1) W' 3 v' (seg p (i + 1)) := by
    rw [seg_succ]; refine Owns.snoc ?_; rw [seg_len]; exact ho
  obtain ⟨⟨a', c'⟩, hs, hr⟩ := own_row hO
  rw [seg_len] at hs
  refine ⟨hbx, a', c', hs, ?_⟩
  have hB' : Bg ≤ W'.heap.size := Nat.le_trans (by omega) hg.size
  refine ⟨?_, ?_, ?_⟩
  · exact (h.bel.grown hg (by omega) (fun k hk => by have := h.own.blk k hk; omega)).setCell (p := ⟨Bg, 0, none⟩) (Nat.le_refl _) v'
  · rw [heap_setCell_same _ _ _ _ _ _ hbx, hs]; rfl
  · rw [hs] at hO ⊢
    exact own_kept hO (grown_set _ _ _ _) (fun m hm e => by have := hO.blk m hm; cases e; omega)
/-- One group while its second row is filled. -/
structure G1 (Bg : Nat) (w1 : World) (B1 : Nat) (a : Option Addr) (c : Nat) (p m : Nat) (a1 : Option Addr) (c1 : Nat) (i : Nat) (W : World) : Prop where
  bel : Below Bg w1 W
  box : W.heap[Bg]? = some (.cells #[.slice a m c, .slice a1 i c1] 86 (0, 0))
  own : Owns (fun n => [I n]) 1 (Bg + 1) W 3 (.slice a m c) (seg p m)
  lt : ∀ j, (Value.slice a m c).ownBlock = some j → j < B1
  own1 : Owns (fun n => [I n]) 1 B1 W 3 (.slice a1 i c1) (seg (p + m) i)
  sz : B1 ≤ W.heap.size
theorem G1.step {Bg B1 : Nat} {w1 W W' : World} {a a1 : Option Addr} {c p m c1 i : Nat} (h : G1 Bg w1 B1 a c p m a1 c1 i W) (hb : Below W.heap.size W W') (hB : Bg ≤ W.heap.size) : G1 Bg w1 B1 a c p m a1 c1 i W' :=
  ⟨h.bel.trans (hb.mono hB), (hb.block _ (Array.getElem?_eq_some_iff.1 h.box).1).trans h.box, h.own.below hb, h.lt, h.own1.below hb, Nat.le_trans h.sz hb.size⟩
theorem G1.put {Bg B1 : Nat} {w1 W W' : World} {a a1 : Option Addr} {c p m c1 i : Nat} {v' : Value} (h : G1 Bg w1 B1 a c p m a1 c1 i W) (h1 : Bg < B1) (hB : B1 ≤ W.heap.size) (hg : W.grownBy W' (Value.slice a1 i c1).ownBlock)
    (ho : W'.ownsRow B1 3 1 v' (i + 1) ((seg (p + m) i).flatMap (fun n => [I n]) ++ [I ((p + m + i : Nat) : Int)])) :
    (W'.heap[Bg]? = some (.cells #[.slice a m c, .slice a1 i c1] 86 (0, 0))) ∧ ∃ a' c', v' = .slice a' (i + 1) c' ∧ G1 Bg w1 B1 a c p m a' c' (i + 1) (W'.setCell ⟨Bg, 1, none⟩ v') := by
  have hne : some Bg ≠ (Value.slice a1 i c1).ownBlock := fun e => by have := h.own1.blk _ e.symm; omega
  have hbx := (hg.block Bg (by omega) hne).trans h.box
  have hO : Owns (fun n => [I n]) 1 B1 W' 3 v' (seg (p + m) (i + 1)) := by
    rw [seg_succ]; refine Owns.snoc ?_; rw [seg_len]; exact ho
  have hO0 : Owns (fun n => [I n]) 1 (Bg + 1) W' 3 (.slice a m c) (seg p m) := own_kept h.own hg (fun j hj e => by have := h.lt j hj; have := h.own1.blk j e; omega)
  obtain ⟨⟨a', c'⟩, hs, hr⟩ := own_row hO
  rw [seg_len] at hs
  refine ⟨hbx, a', c', hs, ?_⟩
  have hB' : Bg ≤ W'.heap.size := Nat.le_trans (by omega) hg.size
  refine ⟨?_, ?_, ?_, h.lt, ?_, by simp; exact Nat.le_trans h.sz hg.size⟩
  · exact (h.bel.grown hg (by omega) (fun k hk => by have := h.own1.blk k hk; omega)).setCell (p := ⟨Bg, 1, none⟩) (Nat.le_refl _) v'
  · rw [heap_setCell_same _ _ _ _ _ _ hbx, hs]; rfl
  · exact own_kept hO0 (grown_set _ _ _ _) (fun m hm e => by have := hO0.blk m hm; cases e; omega)
  · rw [hs] at hO ⊢
    exact own_kept hO (grown_set _ _ _ _) (fun m hm e => by have := hO.blk m hm; cases e; omega)
/-- The groups so far. -/
structure GS (w : World) (tb : Nat) (cs : List Value) (ga : Option Addr) (gc : Nat) (g : Nat) (gs : List Gr) (W : World) : Prop where
  gb : w.grownBy W (some tb)
  tbk : W.heap[tb]? = some (.cells (cs.set 104 (.slice ga g gc)).toArray 31 (0, 0))
  own : Owns Gr.cells 2 w.heap.size W 86 (.slice ga g gc) gs
  len : gs.length = g
  rows : ∀ x ∈ gs, RowI W x.s0 x.r0 ∧ RowI W x.s1 x.r1
theorem GS.step {w W W' : World} {tb : Nat} {cs : List Value} {ga : Option Addr} {gc g : Nat} {gs : List Gr} (h : GS w tb cs ga gc g gs W) (hb : Below W.heap.size W W') : GS w tb cs ga gc g gs W' :=
  ⟨grown_trans h.gb (grown_below hb none) (fun m e => by cases e), (hb.block _ (Array.getElem?_eq_some_iff.1 h.tbk).1).trans h.tbk, h.own.below hb, h.len, fun x hx => ⟨(h.rows x hx).1.below hb, (h.rows x hx).2.below hb⟩⟩
theorem GS.put {w W W' : World} {tb : Nat} {cs : List Value} {ga : Option Addr} {gc g : Nat} {gs : List Gr} {v' : Value} (x : Gr) (h : GS w tb cs ga gc g gs W) (hx : RowI W x.s0 x.r0 ∧ RowI W x.s1 x.r1) (hg : W.grownBy W' (Value.slice ga g gc).ownBlock) (hc : cs.length = 131)
    (ho : W'.ownsRow w.heap.size 86 2 v' (g + 1) (gs.flatMap Gr.cells ++ x.cells)) :
    (W'.heap[tb]? = some (.cells (cs.set 104 (.slice ga g gc)).toArray 31 (0, 0))) ∧ ∃ a' c', v' = .slice a' (g + 1) c' ∧ GS w tb cs a' c' (g + 1) (gs ++ [x]) (W'.setCell ⟨tb, 104, none⟩ v') := by
  have hne : some tb ≠ (Value.slice ga g gc).ownBlock := fun e => own_ne h.own h.tbk (by decide) e.symm
  have hbx := (hg.block tb (Array.getElem?_eq_some_iff.1 h.tbk).1 hne).trans h.tbk
  have hO : Owns Gr.cells 2 w.heap.size W' 86 v' (gs ++ [x]) := Owns.snoc (by rw [h.len]; exact ho)
  obtain ⟨⟨a', c'⟩, hs, hr⟩ := Owns.row hO (fun _ => rfl)
  have hs2 : v' = .slice a' (g + 1) c' := by rw [hs, List.length_append, h.len]; rfl
  have hK : ∀ s l, RowI W s l → RowI (W'.setCell ⟨tb, 104, none⟩ v') s l := fun s l hr => by
    have h1 : RowI W' s l := hr.grown hg (fun y hy e => by
      obtain ⟨ds, hd⟩ := own_type h.own _ e.symm
      exact hr.ne hd (by decide) y hy rfl)
    exact h1.grown (grown_set _ _ _ _) (fun y hy e => h1.ne hbx (by decide) y hy (by cases e; rfl))
  refine ⟨hbx, a', c', hs2, ?_, ?_, ?_, by rw [List.length_append, h.len]; rfl, ?_⟩
  · exact grown_trans (grown_trans h.gb hg (fun m e => .inr (h.own.blk m e))) (grown_set _ _ _ _) (fun m e => .inl (by cases e; rfl))
  · rw [heap_setCell_same _ _ _ _ _ _ hbx, hs2]
    simp
  · rw [← hs2]
    exact own_kept hO (grown_set _ _ _ _) (fun m hm e => by cases e; exact own_ne hO hbx (by decide) hm)
  · intro y hy
    rcases List.mem_append.1 hy with hy | hy
    · exact ⟨hK _ _ (h.rows y hy).1, hK _ _ (h.rows y hy).2⟩
    · obtain rfl : y = x := by simpa using hy
      exact ⟨hK _ _ hx.1, hK _ _ hx.2⟩
end GenG
namespace GenP
open Go.ChangeShapes Go.WideShapes Go.ChangeAt Go.RowKit
open Tab Clone RefS
open May (infoP)
open Same (below_setRow)
end GenP
namespace GenD
open Go.ChangeShapes Go.WideShapes Go.ChangeAt Go.RowKit
open Tab Clone RefS
open May (infoD)
open Same (below_setRow)
end GenD
namespace Spots
open Go.ChangeShapes Go.WideShapes Go.ChangeAt Go.RowKit
open Tab Clone PlaceM Gath
open May (ret_bool chain infoP infoG infoD infoR infoB infoT St)
/-- The block under a slice is one of places. -/
def Typed (w : World) (s : Sl) : Prop := ∀ x, s.a = some x → ∃ cs : Array Value, w.heap[x.block]? = some (.cells cs 88 (0, 0))
theorem Typed.below {w w' : World} {s : Sl} (h : Typed w s) (hb : Below w.heap.size w w') : Typed w' s := fun x hx => by
  obtain ⟨cs, hc⟩ := h x hx
  exact ⟨cs, (hb.block _ (Array.getElem?_eq_some_iff.1 hc).1).trans hc⟩
end Spots
namespace Where
open Go.ChangeShapes Go.WideShapes Go.ChangeAt Go.RowKit
open Tab Clone PlaceM
open May (ret_bool chain infoP infoG infoD infoR infoB infoT St)
open Same (below_setRow)
end Where
namespace GenW
open Go.ChangeShapes Go.WideShapes Go.ChangeAt Go.RowKit
open Tab Clone RefS Where
open PlaceM (where_ beside)
open May (infoT)
end GenW
namespace CodeAt
open Go
end CodeAt
namespace Same
open Go.ChangeShapes Go.WideShapes Go.ChangeAt Go.RowKit
open Tab
open May (ret_bool chain take_succ' infoP infoG infoD infoR infoB infoT row_new St)
end Same
namespace Same
open Go.ChangeShapes Go.WideShapes Go.ChangeAt Go.RowKit
open Tab
open May (ret_bool chain take_succ' infoP infoG infoD infoR infoB infoT row_new St)
end Same
namespace Same
open Go.ChangeShapes Go.WideShapes Go.ChangeAt Go.RowKit
open Tab Owned CodeAt
open May (ret_bool chain take_succ' infoP infoG infoD infoR infoB infoT row_new St)
end Same
namespace GenR
open Go.ChangeShapes Go.WideShapes Go.ChangeAt Go.RowKit
open Tab Clone RefS CodeAt
open May (infoR infoT)
open Same (below_setRow)
open GenW Where
end GenR
namespace GenR
open Go.ChangeShapes Go.WideShapes Go.ChangeAt Go.RowKit
open Tab Clone RefS
open May (infoR infoT)
open GenW Where
open Same (below_setRow)
end GenR
namespace EntryS
open Go.ChangeShapes Go.WideShapes Go.ChangeAt Go.RowKit
open Tab Gath RefS OnS RefC Clear
open May (St phases_in infoP infoT infoR row_new)
end EntryS
namespace OverS
open Go.ChangeShapes Go.WideShapes Go.ChangeAt Go.RowKit
open Tab Gath RefS OnS RefC Clear EntryS
open May (St phases_in infoP infoT infoR row_new)
end OverS
namespace ServeS
open Go.ChangeShapes Go.WideShapes Go.ChangeAt Go.RowKit
open Tab Gath OnS RefC Clear
open RefS (rhas_any)
open May (St phases_in infoP infoT row_new)
end ServeS
namespace PassS
open Go.ChangeShapes Go.WideShapes Go.ChangeAt Go.RowKit
open Tab PlaceM Gath OnS RefC ServeS
open Spots (Typed)
open RefS (info3)
open May (St infoT)
end PassS
namespace FreeS
open Go.ChangeShapes Go.WideShapes Go.ChangeAt Go.RowKit
open Tab PlaceM Gath OnS RefC PassS
open RefS (info3 rhas_any)
open May (St infoT)
end FreeS
namespace WaitS
open Go.ChangeShapes Go.WideShapes Go.ChangeAt Go.RowKit
open Tab Gath OnS RefC FreeS OverS
open May (St infoT row_new)
end WaitS
namespace CodeAt
open Go
end CodeAt
namespace GenT
open Go Go.RowKit
open Tab Gath GenG Clone PlaceM
open RefS (num num_range)
def zTab : Tab := ⟨[zPh, zPh, zPh, zPh, zPh, zPh, zPh, zPh], [], [0, 0, 0, 0, 0, 0, 0, 0], [], [], [], 0, 0, 0, 0, 0, [0, 0, 0, 0, 0, 0, 0, 0], 0, 0⟩
def tab1 (L : List Int) : Tab := { zTab with groups := genGs L }
/-! ### How a table's cells change -/
theorem cells_groups {T : Tab} (hd : Hd) (h8 : T.phases.length = 8) (s : Sl) (l : List (List Int × List Int)) : (T.cells hd).set 104 (s.val l.length) = { T with groups := l }.cells ⟨s, hd.d, hd.r, hd.b⟩ := by
  obtain ⟨a0, a1, a2, a3, a4, a5, a6, a7, e⟩ := eight h8
  obtain ⟨phases, groups, conflict, dets, rails, buses, extend, budget, start, revert, least, flash, window, share⟩ := T
  simp only at e
  subst e
  rfl
/-! ### The box -/
def KT (w : World) (s : Sl) (t : TypeId) : Prop := ∀ x, s.a = some x → ∃ cs : Array Value, w.heap[x.block]? = some (.cells cs t (0, 0))
theorem KT.grown {w w' : World} {s : Sl} {t : TypeId} {row : Option Nat} (h : KT w s t) (hg : w.grownBy w' row) (hne : ∀ x, s.a = some x → some x.block ≠ row) : KT w' s t := fun x hx => by
  obtain ⟨cs, hc⟩ := h x hx
  exact ⟨cs, (hg.block _ (Array.getElem?_eq_some_iff.1 hc).1 (hne x hx)).trans hc⟩
theorem KT.ne {w : World} {s : Sl} {b : Nat} {cs : Array Value} {t t' : TypeId} (h : KT w s t) (hb : w.heap[b]? = some (.cells cs t' (0, 0))) (ht : t' ≠ t) : ∀ x, s.a = some x → x.block ≠ b := by
  intro x hx e
  obtain ⟨ds, hc⟩ := h x hx
  rw [e, hb] at hc
  simp at hc
  exact ht hc.2
theorem row_grown {α : Type} {n : Nat} {enc : α → List Value} {w w' : World} {s : Sl} {l : List α} {row : Option Nat} (h : RowOf n enc w s l) (hg : w.grownBy w' row) (hne : ∀ x, s.a = some x → some x.block ≠ row) : RowOf n enc w' s l := by
  rcases h with h | ⟨x, h1, h2, h3, h4⟩
  · exact .inl h
  · exact .inr ⟨x, h1, h2, h3, fun i v hv j u hu => hg.cell (h4 i v hv j u hu) (by rw [add_block, add_block]; exact hne x h1)⟩
/-- The groups of a table, in blocks of their types. -/
def GrT (w : World) (s : Sl) (l : List (List Int × List Int)) : Prop := ∃ gs : List Gr, gs.map Gr.data = l ∧ RowOf 2 Gr.cells w s gs ∧ KT w s 86 ∧ ∀ g ∈ gs, RowI w g.s0 g.r0 ∧ RowI w g.s1 g.r1
theorem GrT.grown {w w' : World} {s : Sl} {l : List (List Int × List Int)} {row : Option Nat} (h : GrT w s l) (hg : w.grownBy w' row) (hr : ∀ m, row = some m → ∃ cs t, w.heap[m]? = some (.cells cs t (0, 0)) ∧ t ≠ 86 ∧ t ≠ 3) : GrT w' s l := by
  obtain ⟨gs, h1, h2, h3, h4⟩ := h
  have hI : ∀ (s : Sl) (l : List Int), RowI w s l → RowI w' s l := fun s l hs => hs.grown hg (fun x hx e => by
    obtain ⟨cs, t, hb, _, ht⟩ := hr _ e.symm
    exact hs.ne hb ht x hx rfl)
  have hn : ∀ x, s.a = some x → some x.block ≠ row := fun x hx e => by
    obtain ⟨cs, t, hb, ht, _⟩ := hr _ e.symm
    exact h3.ne hb ht x hx rfl
  exact ⟨gs, h1, row_grown h2 hg hn, h3.grown hg hn, fun g hgm => ⟨hI _ _ (h4 g hgm).1, hI _ _ (h4 g hgm).2⟩⟩
theorem GrT.lie {w : World} {s : Sl} {l : List (List Int × List Int)} (h : GrT w s l) : ∃ gs : List Gr, gs.map Gr.data = l ∧ GroupsLie w s gs := by
  obtain ⟨gs, h1, h2, h3, h4⟩ := h
  exact ⟨gs, h1, h2, fun g hg => ⟨(h4 g hg).1.1, (h4 g hg).2.1⟩⟩
def zHd : Hd := ⟨⟨none, 0⟩, ⟨none, 0⟩, ⟨none, 0⟩, ⟨none, 0⟩⟩
/-- The generator's two boxes: the result's, and the table that is built. -/
structure Bx (w : World) (hd : Hd) (T : Tab) (W : World) : Prop where
  bel : Below w.heap.size w W
  res : W.heap[w.heap.size]? = some (.cells (zTab.cells zHd).toArray 31 (0, 0))
  blk : W.heap[w.heap.size + 1]? = some (.cells (T.cells hd).toArray 31 (0, 0))
  ph : T.phases.length = 8
  cf : T.conflict.length = 8
  fl : T.flash.length = 8
  groups : GrT W hd.g T.groups
  dets : Owns Det.cells 7 w.heap.size W 75 (hd.d.val T.dets.length) T.dets
  rails : Owns Rl.cells 11 w.heap.size W 78 (hd.r.val T.rails.length) T.rails
  buses : Owns Bs.cells 2 w.heap.size W 53 (hd.b.val T.buses.length) T.buses
  gbk : ∀ x, hd.g.a = some x → ∃ g, x = ⟨g, 0, none⟩ ∧ w.heap.size ≤ g
theorem own_is {α : Type} {enc : α → List Value} {n B : Nat} {w : World} {t : TypeId} {s : Sl} {l : List α} (henc : ∀ x, (enc x).length = n) (h : Owns enc n B w t (s.val l.length) l) : RowOf n enc w s l := by
  obtain ⟨s', e, r⟩ := Owns.row h henc
  obtain ⟨a, c⟩ := s
  obtain ⟨a', c'⟩ := s'
  simp only [Sl.val, Value.slice.injEq] at e
  obtain ⟨rfl, _, rfl⟩ := e
  exact r
theorem Bx.tab {w W : World} {hd : Hd} {T : Tab} (h : Bx w hd T W) : IsTab W hd T :=
  ⟨h.ph, h.cf, h.fl, h.groups.lie, own_is (fun _ => rfl) h.dets, own_is (fun _ => rfl) h.rails, own_is (fun _ => rfl) h.buses⟩
theorem Bx.size {w W : World} {hd : Hd} {T : Tab} (h : Bx w hd T W) : w.heap.size + 1 < W.heap.size := (Array.getElem?_eq_some_iff.1 h.blk).1
theorem Bx.step {w W W' : World} {hd : Hd} {T : Tab} (h : Bx w hd T W) (hb : Below W.heap.size W W') : Bx w hd T W' :=
  ⟨h.bel.trans (hb.mono h.bel.size), (hb.block _ (by have := h.size; omega)).trans h.res, (hb.block _ h.size).trans h.blk, h.ph, h.cf, h.fl, h.groups.grown (grown_below hb none) (fun m e => by cases e), h.dets.below hb, h.rails.below hb, h.buses.below hb, h.gbk⟩
/-- A block that is neither of the two boxes nor another type's is written. -/
theorem Bx.cell {w W : World} {hd : Hd} {T : Tab} (h : Bx w hd T W) (i : Nat) : W.cell? ⟨w.heap.size + 1, i, none⟩ = (T.cells hd)[i]? := by
  rw [cell_of_row _ _ _ _ _ _ h.blk]; simp
theorem Bx.frozen {w W : World} {hd : Hd} {T : Tab} (h : Bx w hd T W) (i : Nat) : W.frozen? ⟨w.heap.size + 1, i, none⟩ = false := frozen_of_row _ _ _ _ _ h.blk
/-- The table's box is written; its lists stay. -/
theorem Bx.write {w W W' : World} {hd : Hd} {T U : Tab} (h : Bx w hd T W) (hg : W.grownBy W' (some (w.heap.size + 1))) (hb : W'.heap[w.heap.size + 1]? = some (.cells (U.cells hd).toArray 31 (0, 0)))
    (h1 : U.phases.length = 8) (h2 : U.conflict.length = 8) (h3 : U.flash.length = 8) (e1 : U.groups = T.groups) (e2 : U.dets = T.dets) (e3 : U.rails = T.rails) (e4 : U.buses = T.buses) : Bx w hd U W' := by
  refine ⟨h.bel.grown hg h.bel.size (fun k hk => by cases hk; omega), ?_, hb, h1, h2, h3, ?_, ?_, ?_, ?_, h.gbk⟩
  · exact (hg.block _ (by have := h.size; omega) (fun e => by simp at e)).trans h.res
  · rw [e1]
    exact h.groups.grown hg (fun m e => by cases e; exact ⟨_, _, h.blk, by decide, by decide⟩)
  · rw [e2]; exact own_kept h.dets hg (fun m hm e => by cases e; exact own_ne h.dets h.blk (by decide) hm)
  · rw [e3]; exact own_kept h.rails hg (fun m hm e => by cases e; exact own_ne h.rails h.blk (by decide) hm)
  · rw [e4]; exact own_kept h.buses hg (fun m hm e => by cases e; exact own_ne h.buses h.blk (by decide) hm)
/-- One number of the table. -/
theorem Bx.set {w W : World} {hd : Hd} {T U : Tab} (h : Bx w hd T W) (i : Nat) (v : Value) (hc : (T.cells hd).set i v = U.cells hd)
    (h1 : U.phases.length = 8) (h2 : U.conflict.length = 8) (h3 : U.flash.length = 8) (e1 : U.groups = T.groups) (e2 : U.dets = T.dets) (e3 : U.rails = T.rails) (e4 : U.buses = T.buses) : Bx w hd U (W.setCell ⟨w.heap.size + 1, i, none⟩ v) :=
  h.write (grown_set _ _ _ _) (by rw [heap_setCell_same _ _ _ _ _ _ h.blk, ← hc]; simp) h1 h2 h3 e1 e2 e3 e4
end GenT
namespace GenT
open Go.ChangeShapes Go.WideShapes Go.ChangeAt Go.RowKit
open Tab Gath GenG Clone PlaceM CodeAt
open RefS (num num_range from_any)
theorem genGs_len (L : List Int) : (genGs L).length = genG L := up_len L _ _
/-- Behind rows: the box. -/
theorem Bx.first {w W : World} {L : List Int} {ga : Option Addr} {gc : Nat} {gs : List Gr} {W0 : World} (hW : Below w.heap.size w W0) (hs : W0.heap.size = w.heap.size + 2) (h0 : W0.heap[w.heap.size]? = some (.cells (zTab.cells zHd).toArray 31 (0, 0)))
    (hd : gs.map Gr.data = genGs L) (h : GS W0 (w.heap.size + 1) (zTab.cells zHd) ga gc (genG L) gs W) : Bx w ⟨⟨ga, gc⟩, ⟨none, 0⟩, ⟨none, 0⟩, ⟨none, 0⟩⟩ (tab1 L) W := by
  refine ⟨⟨h.gb.os.trans hW.os, h.gb.tape.trans hW.tape, h.gb.output.trans hW.output, by have := h.gb.size; omega, fun j hj => (h.gb.block j (by omega) (fun e => by simp at e; omega)).trans (hW.block j hj)⟩, (h.gb.block _ (by omega) (fun e => by simp at e)).trans h0, ?_, rfl, rfl, rfl, ?_, Owns.nil, Owns.nil, Owns.nil, ?_⟩
  · rw [h.tbk]
    have := cells_groups (T := zTab) zHd rfl ⟨ga, gc⟩ (genGs L)
    rw [genGs_len] at this
    rw [show (Value.slice ga (genG L) gc) = (Sl.val ⟨ga, gc⟩ (genG L)) from rfl, this]
    rfl
  · have hO : Owns Gr.cells 2 W0.heap.size W 86 (Sl.val ⟨ga, gc⟩ gs.length) gs := by rw [h.len]; exact h.own
    refine ⟨gs, hd, own_is (fun _ => rfl) hO, fun x hx => ?_, h.rows⟩
    obtain rfl : ga = some x := hx
    rcases hO.2 with ⟨e, _⟩ | ⟨g, cp, cur, e, h1, h2, _⟩
    · simp [Sl.val] at e
    · simp [Sl.val] at e
      obtain ⟨rfl, _⟩ := e
      exact ⟨cur, h2⟩
  · have hO : Owns Gr.cells 2 W0.heap.size W 86 (Sl.val ⟨ga, gc⟩ gs.length) gs := by rw [h.len]; exact h.own
    intro x hx
    obtain rfl : ga = some x := hx
    rcases hO.2 with ⟨e, _⟩ | ⟨g, cp, cur, e, h1, h2, _⟩
    · simp [Sl.val] at e
    · simp [Sl.val] at e
      obtain ⟨rfl, _⟩ := e
      exact ⟨g, rfl, by omega⟩
end GenT
namespace CodeAt
open Go
end CodeAt
namespace GenT
end GenT
namespace GenT
open Go Tab GenG PlaceM OnS Clone
open RefS (num num_range)
end GenT
namespace GenQ
open Go.ChangeShapes Go.WideShapes Go.ChangeAt Go.RowKit
open Tab
open Clear (phAt)
end GenQ
namespace Rg
open Go Go.ChangeShapes Go.WideShapes Go.ChangeAt Go.RowKit
open Tab Flat TabArg QL Ru PlanM
open ChkM (cfAt)
open Clear (phAt)
open PlaceM (where_ spots Spt)
open May (infoP)
end Rg
namespace Rg
open Go Go.ChangeShapes Go.WideShapes Go.ChangeAt Go.RowKit
open Tab Flat TabArg QL Ru PlanM
open ChkM (cfAt)
open Clear (phAt)
open PlaceM (where_ spots Spt)
open May (infoP)
/-- a phase's run in a tick -/
theorem KB.run {u : World} {g : Nat} {tc : List Value} {r : Rg} {rs : List Ru} {want gr bu : Int} (h : KB u g tc r (runsC rs) want gr bu) (h8 : rs.length = 8) {p : Nat} (hp : p < 8) {j : Nat} {v : Value} (hj : (ruAt rs p).cells[j]? = some v) : u.cell? ⟨g, 135 + p * 12 + j, none⟩ = some v := by
  rw [Nat.add_assoc]; exact h.cell (runs_at h8 hp hj)
end Rg
namespace Rg
open Go Go.ChangeShapes Go.WideShapes Go.ChangeAt Go.RowKit
open Tab Flat TabArg QL Ru PlanM
open ChkM (cfAt)
open Clear (phAt)
open PlaceM (where_ spots Spt)
open May (infoP)
theorem rgreen_any (rs : List Ru) (h8 : rs.length = 8) (w : World) : Calls Tryd.prog 20 #[.agg (runsC rs).toArray] w fun e w' => e = .returned (.int .i64 (thS grB rs : Nat)) ∧ Below w.heap.size w w' := by
  have RS : Hid (((thS grB rs : Nat) : Int) = (SetM.of (thTo grB 0 (rs.take 8)) : Nat)) := Lib.hid (by rw [List.take_of_length_le (by omega)]; rfl)
  have L8 := Lib.hid h8
  have RL : Hid (∀ q, q < 8 → ∀ u gq, Lies u ⟨gq, 0, none⟩ (runsC rs) → Lies u ⟨gq, q * 12, none⟩ (ruAt rs q).cells) := Lib.hid (fun q hq u gq hl j v hj => by
    have := hl (q * 12 + j) v (runs_at h8 hq hj)
    rw [Addr.add_mid, Nat.zero_add] at this
    rwa [Addr.add_mid])
  generalize hrs : ((thS grB rs : Nat) : Int) = res at RS ⊢
  clear hrs
  generalize runsC rs = fl at *
  clear h8
  have hn0 := Blk.Bks.nil w
  have hn1 := hn0.alloc fl.toArray 41
  clear hn0
  go_enter Tryd.func20, Tryd.ntmps20
  go_upto_region 1 with fail
  generalize World.alloc w _ = v at hn1 ⊢
  generalize hg0 : w.heap.size = gq at hn1 ⊢
  clear hg0
  have H0 := Lib.hid hn1
  clear hn1
  have LF : Hid (∀ W, Below v.heap.size v W → Lies W ⟨gq, 0, none⟩ fl) := Lib.hid (fun W hb => by have := (H0.out.step hb).lies 0 rfl; simpa using this)
  go_wp2
  go_loopw [3, 4] (fun s i wr => ∃ q : Nat, q ≤ 8 ∧ i = .int .i64 q ∧ s = .int .i64 (SetM.of (thTo grB 0 (rs.take q)) : Nat) ∧ Below v.heap.size v wr) (fun _ i _ => 8 - (intOf i).toNat)
  case atStart => exact ⟨0, by omega, rfl, rfl, Below.refl _ _⟩
  case round =>
    obtain ⟨q, hq, rfl, rfl, hbel⟩ := hrel
    have HB := Lib.hid hbel
    clear hbel
    by_cases hlt : q < 8
    · have hv : rs[q]? = some (ruAt rs q) := ru_at L8.out hlt
      have LU := Lib.hid (RL.out q hlt wr gq (LF.out wr HB.out))
      generalize ruAt rs q = u at hv LU
      have HV := Lib.hid hv
      have hq8 : (q : Int) < 8 := by omega
      clear hv
      have c0 : wr.cell? ⟨gq, q * 12, none⟩ = some (I u.co) := by have := LU.out 0 _ rfl; rwa [Tab.add_zero] at this
      have HN := HB
      clear LU
      cases hon : grB u with
      | true =>
        have HS := Lib.hid (th_with HV.out hon)
        have e1 : u.co = 1 := by unfold grB at hon; exact beq_iff_eq.1 hon
        rw [e1] at c0
        clear hon e1
        generalize SetM.of (thTo grB 0 (rs.take q)) = s0 at HS ⊢
        go_wp2_with fail
        refine (RefS.rwith_any _ _ _).mono ?_
        rintro e w6 ⟨rfl, b6⟩
        have HN6 := Lib.hid (HN.out.trans (b6.mono HN.out.size))
        clear b6 HN
        go_wp2
        go_roundw
        case rel => exact ⟨q + 1, by omega, by go_num, by rw [← HS.out], HN6.out⟩
        case measure => simp [intOf]; omega
      | false =>
        have HS := Lib.hid (th_skip HV.out hon)
        have e1 : ¬ u.co = 1 := by unfold grB at hon; exact beq_eq_false_iff_ne.1 hon
        have e2 : (u.co == 1) = false := beq_eq_false_iff_ne.2 e1
        clear hon
        generalize SetM.of (thTo grB 0 (rs.take q)) = s0 at HS ⊢
        go_wp2
        go_roundw
        case rel => exact ⟨q + 1, by omega, by go_num, by rw [← HS.out], HN.out⟩
        case measure => simp [intOf]; omega
    · obtain rfl : q = 8 := by omega
      have HE : Hid (((SetM.of (thTo grB 0 (rs.take 8)) : Nat) : Int) = res) := Lib.hid RS.out.symm
      generalize SetM.of (thTo grB 0 (rs.take 8)) = s0 at HE ⊢
      go_wp2
      go_ret
      exact ⟨ret_int HE.out, H0.out.bel.trans (HB.out.mono H0.out.bel.size)⟩
end Rg
namespace Wqs
open Go Go.RowKit
open Tab
structure W (P : Program) (ops : Array Oper) (C : World → Prop) (Q : Act → Prop) (l : List Oper) (a : Act) : Prop where
  out : wpQuiet P ops C Q l a
section
variable {P : Program} {ops : Array Oper} {C : World → Prop} {Q : Act → Prop} {rest : List Oper} {o : Oper} {a : Act}
theorem nil (h : Q a) : W P ops C Q [] a := ⟨wpQuiet_nil h⟩
theorem skip (hw : Region.wanted o (yielded ops a.tmps) = false) (h : W P ops C Q rest (a.put o.dst undef)) : W P ops C Q (o :: rest) a := ⟨BigFrame.wpQuiet_skip hw h.out⟩
theorem want (hw : Region.wanted o (yielded ops a.tmps) = true) (h : ∀ K : Act → Prop, (∀ a, W P ops C Q rest a → K a) → o.quiet P a C K) : W P ops C Q (o :: rest) a :=
  ⟨BigFrame.wpQuiet_want hw fun K hK => h K fun a h => hK a h.out⟩
theorem load (hw : Region.wanted o (yielded ops a.tmps) = true) (ty : TypeId) (x : Operand) (ho : o.op = .load ty x) (y : Addr) (hx : a.eval x = .pointer (some y))
    (cs : List Value) (d : TypeDesc) (hc : ∀ w, C w → Lies w y cs) (hu : P.underlying ty = some d) (hd : d.isRow = true) (hi : (P.info? ty).map (·.size) = some cs.length) (h : W P ops C Q rest (a.put o.dst (.agg cs.toArray))) : W P ops C Q (o :: rest) a :=
  ⟨QL.wpQuiet_load hw ty x ho y hx cs d hc hu hd hi h.out⟩
end
end Wqs
end Go.Proofs.YtkccepdifgldeaaDoor
