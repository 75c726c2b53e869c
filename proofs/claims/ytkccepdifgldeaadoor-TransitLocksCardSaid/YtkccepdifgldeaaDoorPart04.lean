/- 11 texts in one file, in build order. -/
import Derived.Test.YtkccepdifgldeaaDoorRows
import Derived.RangeFuncNested
import Derived.RangeFuncBound
import Derived.ProofKit
import Derived.Test.YtkccepdifgldeaaDoorPart03
import Derived.Test.YtkccepdifgldeaaDoorPart01
import Derived.Deep.Cut
import Derived.Deep.CutRange
import Derived.Deep.RegionHeld
import Derived.Test.YtkccepdifgldeaaDoorPart02
import Derived.Great.BuildSlice
import Derived.LoopTactic
import Derived.StillTailTactics
import Derived.Laws.Rows
set_option linter.unusedVariables false
set_option linter.unusedSimpArgs false
set_option linter.unusedSectionVars false
set_option maxHeartbeats 8000000
set_option maxRecDepth 100000
namespace Go.Proofs.YtkccepdifgldeaaDoor
namespace Mk
open Go
variable {F : Fence} {n : Nat} {P : Program} {fn : Func} {R : Ending → World → Prop}
theorem leaves_congr {t t' : Array Value} (h : ∀ w, (results fn t).run P w = (results fn t').run P w) : ∀ (ds : List Deferred) (u : FrameMode) (w : World), LeavesInM F n P fn t R ds u w → LeavesInM F n P fn t' R ds u w
  | [], .returning, w, ⟨v, hv, hr⟩ => ⟨v, (h w).symm.trans hv, hr⟩
  | [], .panicking _, _, x => x
  | [], .run, _, x => x
  | d :: ds, u, w, ⟨hu, x⟩ => ⟨hu, x.elim (fun ⟨r, w', a, b, c⟩ => .inl ⟨r, w', a, b, leaves_congr h ds u w' c⟩) (fun ⟨hn, fv, cap, f, args, a, b, c, e⟩ => .inr ⟨hn, fv, cap, f, args, a, b, c, e.mono (fun e u w' h' => by
      cases e with
      | returned _ => exact leaves_congr h ds _ w' h'
      | panicked _ => exact leaves_congr h ds _ w' h'
      | outgrown => exact h')⟩)⟩
theorem put_cell {p : Tmp} {ty : TypeId} (hr : fn.results = #[.cell p ty]) (k : Tmp) (hk : k ≠ p) {c} {a : Act} {v : Value} {w : World} (h : bodyPostM F n P fn R (.panic c) (a.put (some k) v) w) : bodyPostM F n P fn R (.panic c) a w := by
  have e : ∀ w, (results fn (a.put (some k) v).tmps).run P w = (results fn a.tmps).run P w := fun w => by
    simp only [results, hr, Act.put]
    simp [Array.getElem?_setIfInBounds, hk]
  exact leaves_congr e _ _ _ h
end Mk
namespace Tr
attribute [local go_sem] Oper.semAt_some
open Go Go.ChangeShapes Go.WideShapes Go.ChangeAt Go.RowKit
open Go.Shelf Held
open Tab Flat TabArg QL Ru Rg PlanM
theorem cell_set {W : World} {R k : Nat} {cs : Array Value} {t : TypeId} (h : W.heap[R]? = some (.cells cs t (0, 0))) (v : Value) : (W.setCell ⟨R, k, none⟩ v).heap[R]? = some (.cells (cs.setIfInBounds k v) t (0, 0)) := by
  rw [setCell_eq_setRow W R k cs t (0, 0) v h]
  exact setRow_heap _ _ _ _ _ _ h
theorem grown_set (W : World) (b k : Nat) (v : Value) : W.grownBy (W.setCell ⟨b, k, none⟩ v) (some b) :=
  ⟨rfl, rfl, rfl, (KeepsWalks.setCell W _ v).size, fun j _ hj => Below.heap_setCell _ _ _ j (fun e => hj (by rw [e]))⟩
/-- P20.2: Spent. -/
def spS (s : Rid) (held round : Bool) : Int := if held then Cnt.more (if round then 0 else s.sp) else if round then 0 else s.sp
/-- P20.2: a bus's Lock. -/
def nxt1 (T : Tab) (s : Rid) (ask : Int) (r : Rid) (k : Nat) : Rid := if 0 < s.lk k then r.put k (wrap64 (s.lk k - 1)) else if SetM.has s.was k && !SetM.has ask k then r.put k (busAt T.buses k).lock else r
def nextS (T : Tab) (s : Rid) (ask : Int) (held round : Bool) : Rid := (eL 15 T.buses).foldl (nxt1 T s ask) ⟨0, 0, 0, 0, (liveS T s ask : Nat), spS s held round⟩
theorem builtRd (a b : Int) : Tryd.prog.built 34 [(1, I a), (2, I b)] = some #[I 0, I 0, I 0, I 0, I a, I b] := by kernel_rfl
theorem low_andNot (s t : Int) (k : Nat) (hk : k < 8) : SetM.has (bits .andNot .i64 s t) k = (SetM.has s k && !SetM.has t k) := by
  rw [SetM.has_nat, SetM.has_nat, SetM.has_nat]
  have h1 : SetM.low (bits .andNot .i64 s t) = SetM.low s &&& (255 - SetM.low t) := by
    show SetM.low (IntKind.i64.wrap ((BitVec.ofInt 64 s &&& ~~~ BitVec.ofInt 64 t).toNat : Nat)) = _
    rw [SetM.low_wrap, BitVec.toNat_and, ← SetM.toNat_low s, ← SetM.toNat_low t]
    apply Nat.eq_of_testBit_eq
    intro i
    rw [show (256 : Nat) = 2 ^ 8 from rfl, Nat.testBit_mod_two_pow, Nat.testBit_and, Nat.testBit_and, Nat.testBit_mod_two_pow]
    by_cases hi : i < 8
    · have e2 : (255 - (BitVec.ofInt 64 t).toNat % 2 ^ 8).testBit i = !((BitVec.ofInt 64 t).toNat % 2 ^ 8).testBit i := by
        rw [show 255 = 2 ^ 8 - 1 from rfl, Nat.sub_sub, Nat.add_comm 1, Nat.testBit_two_pow_sub_succ (Nat.mod_lt _ (by decide))]
        simp [hi]
      have e3 : (~~~ BitVec.ofInt 64 t).toNat.testBit i = !(BitVec.ofInt 64 t).toNat.testBit i := by
        rw [← BitVec.getLsbD, ← BitVec.getLsbD, BitVec.getLsbD_not]
        simp [show i < 64 by omega]
      rw [e2, e3, Nat.testBit_mod_two_pow]
      simp [hi]
    · simp [hi]
  rw [h1, Nat.testBit_and, show 255 = 2 ^ 8 - 1 from rfl, Nat.sub_sub, Nat.add_comm 1, Nat.testBit_two_pow_sub_succ (SetM.low_lt t)]
  simp [hk]
theorem step_any (T : Tab) (hd : Hd) (s : Rid) (ask : Int) (held round : Bool) (w : World) (ht : IsTab w hd T) (db : DB w) : Calls Tryd.prog 16 #[.agg (T.cells hd).toArray, .agg s.cells.toArray, .int .i64 ask, .bool held, .bool round] w fun e w' => e = .returned (.agg (nextS T s ask held round).cells.toArray) ∧ Below w.heap.size w w' := by
  have h1 : (T.cells hd).length = 131 := by have := (cells_ok ht).size; rwa [List.size_toArray] at this
  have IA : (Tryd.prog.info? 31).map (·.size) = some (T.cells hd).length := by rw [h1]; exact May.infoT
  obtain ⟨live, hlive⟩ : ∃ l : Int, (liveS T s ask : Nat) = l := ⟨_, rfl⟩
  have LV : Hid (∀ W, Below w.heap.size w W → Calls Tryd.prog 10 #[.agg (T.cells hd).toArray, .agg s.cells.toArray, .int .i64 ask] W fun e w' => e = .returned (.int .i64 live) ∧ Below W.heap.size W w') := Lib.hid (fun W hb => by rw [← hlive]; exact live_any T hd s ask W (ht.below hb) (db.below hb))
  obtain ⟨sp1, hsp1⟩ : ∃ x, (if round then 0 else s.sp) = x := ⟨_, rfl⟩
  obtain ⟨sp2, hsp2⟩ : ∃ x, (if held then Cnt.more sp1 else sp1) = x := ⟨_, rfl⟩
  have HR : Hid (nextS T s ask held round = (eL 15 T.buses).foldl (nxt1 T s ask) ⟨0, 0, 0, 0, live, sp2⟩) := Lib.hid (by
    unfold nextS spS
    rw [hlive, hsp1, ← hsp2])
  generalize nextS T s ask held round = res at HR ⊢
  have SP1 := Lib.hid hsp1
  have SP2 := Lib.hid hsp2
  clear hlive hsp1 hsp2
  have hn0 := Blk.Bks.nil w
  have hn1 := hn0.alloc (T.cells hd).toArray 31
  have hn2 := hn1.alloc s.cells.toArray 34
  rw [show (w.alloc (.cells (T.cells hd).toArray 31)).heap.size = w.heap.size + 1 by simp] at hn2
  have hn3 := hn2.alloc #[I 0, I 0, I 0, I 0, I 0, I 0] 34
  rw [show ((w.alloc (.cells (T.cells hd).toArray 31)).alloc (.cells s.cells.toArray 34)).heap.size = w.heap.size + 1 + 1 by simp] at hn3
  clear hn0
  clear hn1
  clear hn2
  refine (callsIn_wide (n := 6)).1 ?_
  refine callsIn_of_wp_marks Tryd.func16 rfl trivial ?_ rfl
  simp only [Tryd.ntmps16, List.size_toArray, List.length_cons, List.length_nil, Nat.reduceAdd, Nat.reduceSub, Array.replicate_succ, Array.replicate_zero, List.push_toArray, List.append_toArray, List.nil_append, List.cons_append]
  refine wpIn_wide.2 ?_
  go_upto_region 1 with fail
  generalize World.alloc (World.alloc (World.alloc w _) _) _ = v at hn3 ⊢
  generalize hg2 : w.heap.size + 1 + 1 = gz at hn3 ⊢
  generalize hg1 : w.heap.size + 1 = gs at hn3 ⊢
  generalize hg0 : w.heap.size = gt at hn3 ⊢
  clear hg0 hg1 hg2
  have H0 := Lib.hid hn3
  clear hn3
  have HV := Lib.hid H0.out.bel
  have LT : Hid (∀ W, Below v.heap.size v W → Lies W ⟨gt, 0, none⟩ (T.cells hd)) := Lib.hid (fun W hb => by have := (H0.out.step hb).lies 2 rfl; simpa using this)
  have LS : Hid (∀ W, Below v.heap.size v W → Lies W ⟨gs, 0, none⟩ s.cells) := Lib.hid (fun W hb => by have := (H0.out.step hb).lies 1 rfl; simpa using this)
  have KS : Hid (∀ W, Below v.heap.size v W → W.cell? ⟨gs, 5, none⟩ = some (I s.sp)) := Lib.hid (fun W hb => (H0.out.step hb).cell 1 5 rfl rfl)
  go_cut [11] from 15 to 21 (fun t11 wx => ∃ gn, t11 = .pointer (some ⟨gn, 0, none⟩) ∧ Blk.Bks w [(gn, #[I 0, I 0, I 0, I 0, I live, I s.sp], 34), (gz, #[I 0, I 0, I 0, I 0, I 0, I 0], 34), (gs, s.cells.toArray, 34), (gt, (T.cells hd).toArray, 31)] wx)
  case first =>
    refine wp_region_held (S := fun w' => Below v.heap.size v w') (by kernel_rfl) ?_
    have hS : Below v.heap.size v { v with drawn := v.drawn + 1 } := (Below.refl _ _).drew
    have HA := Lib.hid (H0.out.step hS)
    generalize ({ v with drawn := v.drawn + 1 } : World) = v at hS HA ⊢
    refine Held.take_load (i := 0) (some 15) rfl 31 (.tmp 5) ⟨gt, 0, none⟩ (T.cells hd) _ rfl rfl (by kernel_rfl) (by kernel_rfl) (by kernel_rfl) (fun _ _ _ h => Mk.put_cell (fn := Tryd.f16) rfl _ (by decide) h) (by rfl) hS rfl (fun w' hw' => LT.out w' hw') Tryd.underlying31 rfl IA ?_
    (try dsimp only [Act.put]); (try simp only [List.setIfInBounds_toArray, List.set_cons_zero, List.set_cons_succ])
    refine Held.take_load (i := 1) (some 16) rfl 34 (.tmp 6) ⟨gs, 0, none⟩ s.cells _ rfl rfl (by kernel_rfl) (by kernel_rfl) (by kernel_rfl) (fun _ _ _ h => Mk.put_cell (fn := Tryd.f16) rfl _ (by decide) h) (by rfl) hS rfl (fun w' hw' => LS.out w' hw') Tryd.underlying34 rfl infoRd ?_
    (try dsimp only [Act.put]); (try simp only [List.setIfInBounds_toArray, List.set_cons_zero, List.set_cons_succ])
    refine Held.take (i := 2) (some 17) rfl (v := ?_) rfl (by kernel_rfl) (by kernel_rfl) (by kernel_rfl) (fun _ _ _ h => Mk.put_cell (fn := Tryd.f16) rfl _ (by decide) h) (Or.inl ⟨by rfl, ?_⟩) hS ?_
    rotate_left
    · intro w' hw'
      go_simp
      try with_reducible rfl
    (try dsimp only [Act.put]); (try simp only [List.setIfInBounds_toArray, List.set_cons_zero, List.set_cons_succ])
    refine Held.take (i := 4) (some 19) rfl (v := ?_) rfl (by kernel_rfl) (by kernel_rfl) (by kernel_rfl) (fun _ _ _ h => Mk.put_cell (fn := Tryd.f16) rfl _ (by decide) h) (Or.inl ⟨by rfl, ?_⟩) hS ?_
    rotate_left
    · intro w' hw'
      go_simp
      try with_reducible rfl
    (try dsimp only [Act.put]); (try simp only [List.setIfInBounds_toArray, List.set_cons_zero, List.set_cons_succ])
    refine Held.take (i := 5) (some 20) rfl (v := ?_) rfl (by kernel_rfl) (by kernel_rfl) (by kernel_rfl) (fun _ _ _ h => Mk.put_cell (fn := Tryd.f16) rfl _ (by decide) h) (Or.inl ⟨by rfl, ?_⟩) hS ?_
    rotate_left
    · intro w' hw'
      have k5 := KS.out w' hw'
      go_simp
      try with_reducible rfl
    (try dsimp only [Act.put]); (try simp only [List.setIfInBounds_toArray, List.set_cons_zero, List.set_cons_succ])
    refine wpAnyH_ready (rs := [3, 7]) (by kernel_rfl) (by simp) (AllReadyH.cons rfl (fun K hK => ?_) (AllReadyH.cons rfl (fun K hK => ?_) AllReadyH.nil))
    · go_simp
      refine (LV.out _ (HV.out.trans (hS.mono HV.out.size))).mono ?_
      rintro e vn ⟨rfl, hb⟩
      have hq := hS.trans (hb.mono hS.size)
      have HA2 := Lib.hid (HA.out.step hb)
      clear hS hb HA
      have HA := HA2
      clear HA2
      go_simp
      refine hK.out _ _ hq (fun hS => ?_)
      clear hK K hq
      rename World => v
      (try dsimp only [Act.put]); (try simp only [List.setIfInBounds_toArray, List.set_cons_zero, List.set_cons_succ])
      refine Held.take_build (i := 6) (some 21) rfl 34 #[(1, .tmp 18), (2, .tmp 20)] #[I 0, I 0, I 0, I 0, I live, I s.sp] rfl rfl (by kernel_rfl) (by kernel_rfl) (by kernel_rfl) (fun _ _ _ h => Mk.put_cell (fn := Tryd.f16) rfl _ (by decide) h) (by rfl) hS (by have h := builtRd live s.sp; first | (simp [Act.eval]; exact h) | (go_simp; exact h)) ?_
      (try dsimp only [Act.put]); (try simp only [List.setIfInBounds_toArray, List.set_cons_zero, List.set_cons_succ])
      refine wpAnyH_ready (rs := [7]) (by kernel_rfl) (by simp) (AllReadyH.cons rfl (fun K hK => ?_) AllReadyH.nil)
      go_simp
      have ha := HA.out.alloc #[I 0, I 0, I 0, I 0, I 0, I 0] 34
      have HGEgn := Lib.hid hS.size
      have hq := hS.alloc hS.size (.cells #[I 0, I 0, I 0, I 0, I 0, I 0] 34)
      clear hS HA
      generalize v.heap.size = gn at ha HGEgn ⊢
      generalize World.alloc v _ = va at ha hq ⊢
      have HA := Lib.hid ha
      clear ha
      refine hK.out _ _ hq (fun hS => ?_)
      clear hK K hq
      rename World => v
      (try dsimp only [Act.put]); (try simp only [List.setIfInBounds_toArray, List.set_cons_zero, List.set_cons_succ])
      refine wpAnyH_ready (rs := [8]) (by kernel_rfl) (by simp) (AllReadyH.cons rfl (fun K hK => ?_) AllReadyH.nil)
      rw [if_pos (by rfl)]
      refine wp_store_row 34 _ _ rfl gn #[I 0, I 0, I 0, I 0, I live, I s.sp] rfl rfl 34 _ (HA.out.at 0 rfl) infoRd rfl (by simp [Value.oneCell']) ?_
      have hq := below_setRow hS (g := gn) HGEgn.out #[I 0, I 0, I 0, I 0, I live, I s.sp]
      have hput := HA.out.put 0 rfl #[I 0, I 0, I 0, I 0, I live, I s.sp]
      simp only [List.set_cons_succ, List.set_cons_zero] at hput
      clear hS HA
      generalize World.setRow _ gn _ = vs at hput hq ⊢
      have HA := Lib.hid hput
      clear hput
      refine hK.out _ _ hq (fun hS => ?_)
      clear hK K hq
      rename World => v
      (try simp only [List.getElem_toArray, List.getElem_cons_succ, List.getElem_cons_zero])
      (try dsimp only [Act.put]); (try simp only [List.setIfInBounds_toArray, List.set_cons_zero, List.set_cons_succ])
      refine wpAnyH_done (by kernel_rfl) ?_ _
      go_wp2_with fail
      go_meet
      case rel => exact ⟨gn, rfl, HA.out⟩
    · go_simp
      have ha := HA.out.alloc #[I 0, I 0, I 0, I 0, I 0, I 0] 34
      have HGEgn := Lib.hid hS.size
      have hq := hS.alloc hS.size (.cells #[I 0, I 0, I 0, I 0, I 0, I 0] 34)
      clear hS HA
      generalize v.heap.size = gn at ha HGEgn ⊢
      generalize World.alloc v _ = va at ha hq ⊢
      have HA := Lib.hid ha
      clear ha
      refine hK.out _ _ hq (fun hS => ?_)
      clear hK K hq
      rename World => v
      (try dsimp only [Act.put]); (try simp only [List.setIfInBounds_toArray, List.set_cons_zero, List.set_cons_succ])
      refine wpAnyH_ready (rs := [3]) (by kernel_rfl) (by simp) (AllReadyH.cons rfl (fun K hK => ?_) AllReadyH.nil)
      go_simp
      refine (LV.out _ (HV.out.trans (hS.mono HV.out.size))).mono ?_
      rintro e vn ⟨rfl, hb⟩
      have hq := hS.trans (hb.mono hS.size)
      have HA2 := Lib.hid (HA.out.step hb)
      clear hS hb HA
      have HA := HA2
      clear HA2
      go_simp
      refine hK.out _ _ hq (fun hS => ?_)
      clear hK K hq
      rename World => v
      (try dsimp only [Act.put]); (try simp only [List.setIfInBounds_toArray, List.set_cons_zero, List.set_cons_succ])
      refine Held.take_build (i := 6) (some 21) rfl 34 #[(1, .tmp 18), (2, .tmp 20)] #[I 0, I 0, I 0, I 0, I live, I s.sp] rfl rfl (by kernel_rfl) (by kernel_rfl) (by kernel_rfl) (fun _ _ _ h => Mk.put_cell (fn := Tryd.f16) rfl _ (by decide) h) (by rfl) hS (by have h := builtRd live s.sp; first | (simp [Act.eval]; exact h) | (go_simp; exact h)) ?_
      (try dsimp only [Act.put]); (try simp only [List.setIfInBounds_toArray, List.set_cons_zero, List.set_cons_succ])
      refine wpAnyH_ready (rs := [8]) (by kernel_rfl) (by simp) (AllReadyH.cons rfl (fun K hK => ?_) AllReadyH.nil)
      rw [if_pos (by rfl)]
      refine wp_store_row 34 _ _ rfl gn #[I 0, I 0, I 0, I 0, I live, I s.sp] rfl rfl 34 _ (HA.out.at 0 rfl) infoRd rfl (by simp [Value.oneCell']) ?_
      have hq := below_setRow hS (g := gn) HGEgn.out #[I 0, I 0, I 0, I 0, I live, I s.sp]
      have hput := HA.out.put 0 rfl #[I 0, I 0, I 0, I 0, I live, I s.sp]
      simp only [List.set_cons_succ, List.set_cons_zero] at hput
      clear hS HA
      generalize World.setRow _ gn _ = vs at hput hq ⊢
      have HA := Lib.hid hput
      clear hput
      refine hK.out _ _ hq (fun hS => ?_)
      clear hK K hq
      rename World => v
      (try simp only [List.getElem_toArray, List.getElem_cons_succ, List.getElem_cons_zero])
      (try dsimp only [Act.put]); (try simp only [List.setIfInBounds_toArray, List.set_cons_zero, List.set_cons_succ])
      refine wpAnyH_done (by kernel_rfl) ?_ _
      go_wp2_with fail
      go_meet
      case rel => exact ⟨gn, rfl, HA.out⟩
  case rest =>
  obtain ⟨gn, rfl, hcut⟩ := hcut
  have H1 := Lib.hid hcut
  clear hcut H0 LT LS KS HV LV
  rename World => wx
  rename_i K hK
  refine hK _ _ ?_
  clear hK K
  refine wp_seq_k ?_
  intro K hK
  go_cut [] from 22 to 23 (fun wx => Blk.Bks w [(gn, #[I 0, I 0, I 0, I 0, I live, I sp1], 34), (gz, #[I 0, I 0, I 0, I 0, I 0, I 0], 34), (gs, s.cells.toArray, 34), (gt, (T.cells hd).toArray, 31)] wx)
  case first =>
    cases round
    · have e1 : sp1 = s.sp := SP1.out.symm
      subst e1
      go_wp2
      go_meet
      case rel => exact H1.out
    · have e1 : sp1 = 0 := SP1.out.symm
      subst e1
      have k5 : wx.cell? ⟨gn, 5, none⟩ = some (I s.sp) := H1.out.cell 0 5 rfl rfl
      have f5 : wx.frozen? ⟨gn, 5, none⟩ = false := H1.out.frozen 0 5 rfl
      go_wp2
      go_meet
      case rel => exact H1.out.set 0 5 rfl (I 0)
  case rest =>
  have H2 := Lib.hid hcut
  clear hcut
  rename World => wy
  clear H1 SP1
  refine hK _ _ ?_
  clear hK K
  refine wp_seq_k ?_
  intro K hK
  go_cut [] from 24 to 28 (fun wx => Blk.Bks w [(gn, #[I 0, I 0, I 0, I 0, I live, I sp2], 34), (gz, #[I 0, I 0, I 0, I 0, I 0, I 0], 34), (gs, s.cells.toArray, 34), (gt, (T.cells hd).toArray, 31)] wx)
  case first =>
    cases held
    · have e1 : sp2 = sp1 := SP2.out.symm
      subst e1
      go_wp2
      go_meet
      case rel => exact H2.out
    · obtain ⟨sp3, hsp3⟩ : ∃ x, Cnt.more sp1 = x := ⟨_, rfl⟩
      have e1 : sp2 = sp3 := by rw [← hsp3]; exact SP2.out.symm
      subst e1
      have OM : Hid (∀ W, Calls Tryd.prog 28 #[.int .i64 sp1] W fun e w' => e = .returned (.int .i64 sp2) ∧ W = w') := Lib.hid (fun W => by rw [← hsp3]; exact oneMore_any sp1 W)
      have k5 : wy.cell? ⟨gn, 5, none⟩ = some (I sp1) := H2.out.cell 0 5 rfl rfl
      have f5 : wy.frozen? ⟨gn, 5, none⟩ = false := H2.out.frozen 0 5 rfl
      clear hsp3
      go_wp2_with (go_at_call 28; with_reducible refine (OM.out _).mono ?_; rintro e w' ⟨rfl, rfl⟩)
      go_meet
      case rel => exact H2.out.set 0 5 rfl (I sp2)
  case rest =>
  have H3 := Lib.hid hcut
  clear hcut
  rename World => wz
  clear H2 SP2
  have w4 : wz.cell? ⟨gs, 4, none⟩ = some (I s.was) := H3.out.cell 2 4 rfl rfl
  refine hK _ _ ?_
  clear hK K
  go_upto_region 7 with fail
  obtain ⟨gone, hgone⟩ : ∃ x, bits .andNot .i64 s.was ask = x := ⟨_, rfl⟩
  have GO : Hid (∀ k : Nat, k < 8 → SetM.has gone k = (SetM.has s.was k && !SetM.has ask k)) := Lib.hid (fun k hk => by rw [← hgone]; exact low_andNot s.was ask k hk)
  have hn := H3.out.alloc #[I gone] 3
  simp only [hgone]
  generalize World.alloc wz _ = v4 at hn ⊢
  generalize wz.heap.size = gq at hn ⊢
  have H4 := Lib.hid hn
  clear hn H3 w4 hgone
  go_wp2_with (refine Row.wpList_load_g 31 _ rfl (by first | rfl | (go_simp; done) | fail) ⟨gt, 0, none⟩ rfl (T.cells hd) _ (by have := H4.out.lies 4 rfl; simpa using this) Tryd.underlying31 rfl IA ?_)
  refine (callsIn_wide.1 (each_in 6 T hd 15 _ (ht.below H4.out.bel))).mono ?_
  rintro e vn ⟨rfl, rfl⟩
  go_wp2_with fail
  have hn := ((H4.out.alloc (T.cells hd).toArray 31).alloc #[I 15] 3).alloc #[.slice hd.b.a (min T.buses.length 4) hd.b.cap] 29
  rw [show (v4.alloc (.cells (T.cells hd).toArray 31)).heap.size = v4.heap.size + 1 by simp, show ((v4.alloc (.cells (T.cells hd).toArray 31)).alloc (.cells #[I 15] 3)).heap.size = v4.heap.size + 2 by simp] at hn
  generalize World.alloc (World.alloc (World.alloc v4 _) _) _ = W0 at hn ⊢
  generalize hb2 : v4.heap.size + 2 = bo at hn ⊢
  generalize hb1 : v4.heap.size + 1 = bs at hn ⊢
  generalize v4.heap.size = bt at hn
  clear hb1 hb2 H4
  have H5 := Lib.hid hn
  clear hn
  obtain ⟨hE, hlb⟩ := ea_of H5.out ht db 4 (by decide) rfl rfl rfl
  refine (wpIn_wide (n := 6)).1 ?_
  refine each_loop (fun pre => .cells (pre.foldl (nxt1 T s ask) ⟨0, 0, 0, 0, live, sp2⟩).cells.toArray 34) bs bo gn 15 T.buses hd.b rfl rfl hE (Blk.lt_of (H5.out.at 4 rfl)) hlb (fun _ => rfl) (fun k Bx => { tmps := #[.agg (T.cells hd).toArray, .agg s.cells.toArray, I ask, .bool held, .bool round, .pointer (some ⟨gt, 0, none⟩), .pointer (some ⟨gs, 0, none⟩), undef, undef, undef, .pointer (some ⟨gz, 0, none⟩), .pointer (some ⟨gn, 0, none⟩), .pointer (some ⟨gq, 0, none⟩), I k, .pointer (some ⟨Bx, 0, none⟩), u15, u16, u17, u18, u19, u20, u21, u22, u23, u24, u25, u26, u27, u28, .pointer (some ⟨gs, 4, none⟩), I s.was, I ask, I gone, .agg (T.cells hd).toArray, .func (.func 37) #[] #[.pointer (some ⟨bs, 0, none⟩), .pointer (some ⟨bo, 0, none⟩)], I k, .agg (busAt T.buses k).cells.toArray, undef, undef, undef, undef, undef, undef, undef, undef, undef, undef, undef, undef, undef, undef, undef, undef, undef, undef, undef, undef, undef, undef, undef, undef, undef, undef], defers := [] }) 53 (fun k => (busAt T.buses k).cells.toArray) (H5.out.at 4 rfl) ?assign ?body ?done
  case assign =>
    intro l k W K hg hK
    have HK := Lib.hid hK
    clear hK
    generalize busAt T.buses k = b at HK ⊢
    refine wpIn_seq ?_
    refine Up.region_list ?_ (by kernel_rfl) ?_
    · rintro ⟨_, _, h⟩; exact h
    go_wp2_with fail
    refine Up.region_list ?_ (by kernel_rfl) ?_
    · rintro ⟨_, _, h⟩; exact h
    go_wp2_with (refine Row.wpList_store_new rfl 53 _ _ rfl W _ b.cells.toArray rfl rfl rfl infoBs rfl (Bs.one _) ?_)
    exact HK.out _ ((Below.refl _ _).alloc (Nat.le_refl _) _) (heap_alloc_new W _)
  case body =>
    intro l pre k Bx W hk hR hg hBx hB
    obtain ⟨hk0, hk4, hk2⟩ := mem_eL.1 hk
    have hgs : W.heap[gs]? = some (.cells s.cells.toArray 34 (0, 0)) := (hg.block gs (Blk.lt_of (H5.out.at 6 rfl)) (fun e => Blk.nd_ne H5.out.apart (i := 6) (j := 4) rfl rfl (by decide) (Option.some.inj e))).trans (H5.out.at 6 rfl)
    have hgq : W.heap[gq]? = some (.cells #[I gone] 3 (0, 0)) := (hg.block gq (Blk.lt_of (H5.out.at 3 rfl)) (fun e => Blk.nd_ne H5.out.apart (i := 3) (j := 4) rfl rfl (by decide) (Option.some.inj e))).trans (H5.out.at 3 rfl)
    have c0 : W.cell? ⟨gs, k, none⟩ = some (I (s.lk k)) := by
      rw [cell_of_row _ _ _ _ _ _ hgs, List.getElem?_toArray]
      exact lk_at s hk4
    have cq : W.cell? ⟨gq, 0, none⟩ = some (I gone) := by rw [cell_of_row _ _ _ _ _ _ hgq]; rfl
    have cb : W.cell? ⟨Bx, 1, none⟩ = some (I (busAt T.buses k).lock) := by rw [cell_of_row _ _ _ _ _ _ hB]; rfl
    have hk5 : (k : Int) < 4 := by omega
    have hk6 : (k : Int) < 64 := by omega
    have HO : Hid ((pre ++ [k]).foldl (nxt1 T s ask) ⟨0, 0, 0, 0, live, sp2⟩ = nxt1 T s ask (pre.foldl (nxt1 T s ask) ⟨0, 0, 0, 0, live, sp2⟩) k) := Lib.hid (by rw [List.foldl_append]; rfl)
    have GK := Lib.hid (GO.out k (by omega))
    have SH := SetM.has_shr gone k (by omega)
    generalize pre.foldl (nxt1 T s ask) ⟨0, 0, 0, 0, live, sp2⟩ = r at *
    have cr : W.cell? ⟨gn, k, none⟩ = some (I (r.lk k)) := by
      rw [cell_of_row _ _ _ _ _ _ hR, List.getElem?_toArray]
      exact lk_at r hk4
    have fr : W.frozen? ⟨gn, k, none⟩ = false := frozen_of_row _ _ _ _ _ hR
    have PA := Lib.hid (put_at r hk4)
    have HRR := Lib.hid hR
    clear hR hB hgs hgq hE hlb hg hk hk0 hk2
    have N1 : Hid (nxt1 T s ask r k = if 0 < s.lk k then r.put k (wrap64 (s.lk k - 1)) else if SetM.has s.was k && !SetM.has ask k then r.put k (busAt T.buses k).lock else r) := Lib.hid rfl
    rw [← GK.out] at N1
    by_cases hl : 0 < s.lk k
    · replace N1 := Lib.hid (N1.out.trans (if_pos hl))
      have d1 : decide (s.lk k > 0) = true := decide_eq_true hl
      clear SH
      refine wpIn_block ?_
      refine wpIn_block ?_
      refine wpIn_seq ?_
      refine Up.region_list ?_ (by kernel_rfl) ?_
      · rintro ⟨_, _, h⟩; exact h
      go_wp2_with fail
      gi_wp2
      dsimp only [rpost]
      rw [HO.out, N1.out, ← PA.out]
      exact ⟨cell_set HRR.out _, grown_set _ _ _ _⟩
    · replace N1 := Lib.hid (N1.out.trans (if_neg hl))
      have d1 : decide (s.lk k > 0) = false := decide_eq_false hl
      by_cases hk2 : SetM.has gone k = true
      · replace N1 := Lib.hid (N1.out.trans (if_pos hk2))
        rw [if_pos hk2] at SH
        have SH2 : (bits .and .i64 (gone / 2 ^ k) 1 == 1) = true := by rw [SH]; rfl
        clear SH hk2
        refine wpIn_block ?_
        refine wpIn_block ?_
        refine wpIn_seq ?_
        refine Up.region_list ?_ (by kernel_rfl) ?_
        · rintro ⟨_, _, h⟩; exact h
        go_wp2_with fail
        gi_wp2
        dsimp only [rpost]
        rw [HO.out, N1.out, ← PA.out]
        exact ⟨cell_set HRR.out _, grown_set _ _ _ _⟩
      · replace N1 := Lib.hid (N1.out.trans (if_neg hk2))
        rw [if_neg hk2] at SH
        have SH2 : (bits .and .i64 (gone / 2 ^ k) 1 == 1) = false := by rw [SH]; rfl
        clear SH hk2
        refine wpIn_block ?_
        refine wpIn_block ?_
        refine wpIn_seq ?_
        refine Up.region_list ?_ (by kernel_rfl) ?_
        · rintro ⟨_, _, h⟩; exact h
        go_wp2_with fail
        gi_wp2
        dsimp only [rpost]
        rw [HO.out, N1.out]
        exact ⟨HRR.out, Search.grown_of_below (Below.refl _ _)⟩
  case done =>
    intro D W hD hR hg hK
    rw [← HR.out] at hR
    have H6 := Lib.hid (bks_loop H5.out 4 rfl hR hg)
    simp only [List.set_cons_succ, List.set_cons_zero] at H6
    have KD := Lib.hid hK
    have HD : Hid (w.heap.size ≤ D) := Lib.hid (by have := H5.out.bel.size; omega)
    have DZ : Hid (D ≠ gz) := Lib.hid (by have := Blk.lt_of (H5.out.at 5 rfl); omega)
    clear hg hR hE hlb H5 hK
    go_wp2_with (first | (refine Row.wpList_load_g 34 _ rfl (by first | rfl | (go_simp; done) | fail) ⟨gn, 0, none⟩ rfl res.cells _ (seg H6.out 4 0 rfl _ rfl) Tryd.underlying34 rfl infoRd ?_) | (refine wpList_store_row rfl 34 _ _ rfl gz res.cells.toArray rfl rfl 34 _ (H6.out.at 5 rfl) infoRd rfl (one_rd _) ?_))
    have hK' : (W.setRow gz res.cells.toArray).heap[D]? = some (.deferred (some [])) := (setRow_other _ _ _ _ DZ.out).trans KD.out
    have hz1 : (W.setRow gz res.cells.toArray).heap[gz]? = some (.cells res.cells.toArray 34 (0, 0)) := setRow_heap _ _ _ _ _ _ (H6.out.at 5 rfl)
    have hz2 := ((grownBy_putObj' (W.setRow gz res.cells.toArray) D (.deferred none)).block gz (Array.getElem?_eq_some_iff.1 hz1).1 (fun e => DZ.out (Option.some.inj e).symm)).trans hz1
    refine (show LeavesInM _ _ _ _ _ _ _ _ _ from ⟨by simp, .inl ⟨_, _, rfl, run_takeDeferred hK', ?_⟩⟩)
    exact ⟨_, results_cell_row rfl _ _ gz 34 _ (0, 0) _ rfl hz2 Tryd.underlying34 rfl infoRd, rfl, (below_setRow H6.out.bel (g := gz) (H6.out.ge 5 rfl) _).trans (belowK_b (w := w) (Nat.le_refl _) _ D _ _ HD.out hK' rfl rfl)⟩
end Tr
namespace Tr
attribute [local go_sem] Oper.semAt_some
open Go Go.ChangeShapes Go.WideShapes Go.ChangeAt Go.RowKit
open Tab Flat TabArg QL Ru Rg PlanM
theorem rbit_any (s : Int) (k : Nat) (hk : k < 8) (w : World) : Calls Tryd.prog 22 #[.int .i64 s, .int .i64 k] w fun e w' => e = .returned (.bool (SetM.has s k)) ∧ w = w' := by
  have SH := SetM.has_shr s k hk
  have h64 : (k : Int) < 64 := by omega
  cases hh : SetM.has s k
  · rw [hh, if_neg (by simp)] at SH
    have SH2 : (bits .and .i64 (s / 2 ^ k) 1 == 1) = false := by rw [SH]; rfl
    go_enter Tryd.func22, Tryd.ntmps22
    go_wp2
    go_ret
    exact ⟨rfl, rfl⟩
  · rw [hh, if_pos rfl] at SH
    have SH2 : (bits .and .i64 (s / 2 ^ k) 1 == 1) = true := by rw [SH]; rfl
    go_enter Tryd.func22, Tryd.ntmps22
    go_wp2
    go_ret
    exact ⟨rfl, rfl⟩
theorem rbit_is {s : Int} {k : Nat} (hk : k < 8) {b : Bool} (hb : SetM.has s k = b) (w : World) : Calls Tryd.prog 22 #[.int .i64 s, .int .i64 k] w fun e w' => e = .returned (.bool b) ∧ w = w' := hb ▸ rbit_any s k hk w
def nB (bu : List Bs) : Nat := min bu.length 4
theorem eL_range (s : Int) (bu : List Bs) : eL s bu = (List.range (nB bu)).filter fun k : Nat => SetM.has s k := by
  unfold eL bitsOf nB
  have hm : min bu.length 4 ≤ 4 := Nat.min_le_right _ _
  generalize min bu.length 4 = m at hm ⊢
  have e : ∀ k : Nat, (setOf s m).testBit k = (decide (k < m) && SetM.has s k) := fun k => by
    unfold setOf
    rw [Nat.testBit_and, Nat.testBit_two_pow_sub_one, SetM.has_nat, Bool.and_comm]
  rw [show (List.range 4).filter (fun k => (setOf s m).testBit k) = (List.range 4).filter (fun k : Nat => decide (k < m) && SetM.has s k) from List.filter_congr (fun k _ => e k)]
  match m, hm with
  | 0, _ => simp
  | 1, _ => simp [List.range_succ, List.filter_cons]
  | 2, _ => simp [List.range_succ, List.filter_cons]
  | 3, _ => simp [List.range_succ, List.filter_cons]
  | 4, _ => simp [List.range_succ, List.filter_cons]
theorem fN_eL (f : Nat → Bool) (s : Int) (bu : List Bs) : fN f (eL s bu) = fN (fun k : Nat => SetM.has s k && f k) (List.range (nB bu)) := by
  rw [eL_range]
  unfold fN
  rw [List.filter_filter]
  congr 3
  funext k
  rw [Bool.and_comm]
theorem fold_eL {α : Type} (f : α → Nat → α) (a : α) (s : Int) (bu : List Bs) : (eL s bu).foldl f a = (List.range (nB bu)).foldl (fun a (k : Nat) => if SetM.has s k then f a k else a) a := by
  rw [eL_range, List.foldl_filter]
theorem nB_way {bu : List Bs} {q : Nat} (hq : q ≤ nB bu) : (q < bu.length ∧ q < 4 ∧ q < nB bu) ∨ (q = nB bu ∧ ¬ q < bu.length) ∨ (q = nB bu ∧ q < bu.length ∧ q = 4) := by
  unfold nB at *
  omega
end Tr
namespace Tr
attribute [local go_sem] Oper.semAt_some
open Go Go.ChangeShapes Go.WideShapes Go.ChangeAt Go.RowKit
open Tab Flat TabArg QL Ru Rg PlanM
theorem rlive_any (T : Tab) (hd : Hd) (s : Rid) (ask : Int) (w : World) (ht : IsTab w hd T) : Calls Tryd.prog 11 #[.agg (T.cells hd).toArray, .agg s.cells.toArray, .int .i64 ask] w fun e w' => e = .returned (.int .i64 (liveS T s ask : Nat)) ∧ Below w.heap.size w w' := by
  have h1 : (T.cells hd).length = 131 := by have := (cells_ok ht).size; rwa [List.size_toArray] at this
  have IA : (Tryd.prog.info? 31).map (·.size) = some (T.cells hd).length := by rw [h1]; exact May.infoT
  have HL : Hid (liveS T s ask = fN (fun k : Nat => SetM.has ask k && decide (s.lk k ≤ 0)) (List.range (nB T.buses))) := Lib.hid (by unfold liveS; rw [fN_eL])
  generalize liveS T s ask = res at HL ⊢
  have NW : Hid (∀ q, q ≤ nB T.buses → (q < T.buses.length ∧ q < 4 ∧ q < nB T.buses) ∨ (q = nB T.buses ∧ ¬ q < T.buses.length) ∨ (q = nB T.buses ∧ q < T.buses.length ∧ q = 4)) := Lib.hid (fun q h => nB_way h)
  have hcb := tab_bu ht
  generalize nB T.buses = m at *
  generalize T.buses.length = bl at *
  have hn0 := Blk.Bks.nil w
  have hn1 := hn0.alloc (T.cells hd).toArray 31
  have hn2 := hn1.alloc s.cells.toArray 34
  rw [show (w.alloc (.cells (T.cells hd).toArray 31)).heap.size = w.heap.size + 1 by simp] at hn2
  clear hn0
  clear hn1
  go_enter Tryd.func11, Tryd.ntmps11
  go_upto_region 2 with fail
  generalize World.alloc (World.alloc w _) _ = v at hn2 ⊢
  generalize hg1 : w.heap.size + 1 = gs at hn2 ⊢
  generalize hg0 : w.heap.size = gt at hn2 ⊢
  clear hg0 hg1
  have H0 := Lib.hid hn2
  clear hn2
  have KB : Hid (∀ W, Below v.heap.size v W → W.cell? ⟨gt, 115, none⟩ = some (.slice hd.b.a bl hd.b.cap)) := Lib.hid (fun W hb => (H0.out.step hb).cell 1 115 rfl (by rw [List.getElem?_toArray]; exact hcb))
  have KL : Hid (∀ W, Below v.heap.size v W → ∀ k, k < 4 → W.cell? ⟨gs, k, none⟩ = some (I (s.lk k))) := Lib.hid (fun W hb k hk => (H0.out.step hb).cell 0 k rfl (by rw [List.getElem?_toArray]; exact lk_at s hk))
  clear hcb
  go_wp2
  go_loopw [7, 8] (fun n k wr => ∃ q : Nat, q ≤ m ∧ k = .int .i64 q ∧ n = .int .i64 (fN (fun k : Nat => SetM.has ask k && decide (s.lk k ≤ 0)) (List.range q) : Nat) ∧ Below v.heap.size v wr) (fun _ k _ => m - (intOf k).toNat)
  case atStart => exact ⟨0, Nat.zero_le _, rfl, rfl, Below.refl _ _⟩
  case round =>
    obtain ⟨q, hq, rfl, rfl, hbel⟩ := hrel
    have HB := Lib.hid hbel
    have cb := KB.out wr hbel
    clear hbel
    rcases NW.out q hq with ⟨h1, h2, h3⟩ | ⟨h1, h2⟩ | ⟨h1, h2, h3⟩
    · have g1 : (q : Int) < (bl : Int) := by omega
      have g2 : (q : Int) < 4 := by omega
      have g3 : (q : Int) < 64 := by omega
      have cl := KL.out wr HB.out q h2
      have HS : Hid (List.range (q + 1) = List.range q ++ [q]) := Lib.hid List.range_succ
      cases hh : SetM.has ask q
      · have HO : Hid (fN (fun k : Nat => SetM.has ask k && decide (s.lk k ≤ 0)) (List.range (q + 1)) = fN (fun k : Nat => SetM.has ask k && decide (s.lk k ≤ 0)) (List.range q)) := Lib.hid (by rw [HS.out]; exact fN_miss (by simp [hh]))
        have HB1 := Lib.hid (fun w => rbit_is (show q < 8 by omega) hh w)
        generalize fN (fun k : Nat => SetM.has ask k && decide (s.lk k ≤ 0)) (List.range q) = n0 at HO ⊢
        clear hh HS
        go_wp2_with (go_at_call 22; with_reducible refine (HB1.out _).mono ?_; rintro e w' ⟨rfl, rfl⟩)
        go_roundw
        case rel => exact ⟨q + 1, by omega, by go_num, by rw [HO.out], HB.out⟩
        case measure => simp [intOf]; omega
      · have HB1 := Lib.hid (fun w => rbit_is (show q < 8 by omega) hh w)
        by_cases hl : s.lk q ≤ 0
        · have HO : Hid (bits .or .i64 (fN (fun k : Nat => SetM.has ask k && decide (s.lk k ≤ 0)) (List.range q) : Nat) (wrap64 ((2 : Int) ^ q)) = (fN (fun k : Nat => SetM.has ask k && decide (s.lk k ≤ 0)) (List.range (q + 1)) : Nat)) := Lib.hid (by rw [HS.out]; exact fN_or (by simp [hh, hl]) (by omega))
          generalize ((fN (fun k : Nat => SetM.has ask k && decide (s.lk k ≤ 0)) (List.range q) : Nat) : Int) = n0 at HO ⊢
          clear hh HS
          go_wp2_with (go_at_call 22; with_reducible refine (HB1.out _).mono ?_; rintro e w' ⟨rfl, rfl⟩)
          go_roundw
          case rel => exact ⟨q + 1, by omega, by go_num, by rw [← HO.out], HB.out⟩
          case measure => simp [intOf]; omega
        · have HO : Hid (fN (fun k : Nat => SetM.has ask k && decide (s.lk k ≤ 0)) (List.range (q + 1)) = fN (fun k : Nat => SetM.has ask k && decide (s.lk k ≤ 0)) (List.range q)) := Lib.hid (by rw [HS.out]; exact fN_miss (by simp [hl]))
          generalize fN (fun k : Nat => SetM.has ask k && decide (s.lk k ≤ 0)) (List.range q) = n0 at HO ⊢
          clear hh HS
          go_wp2_with (go_at_call 22; with_reducible refine (HB1.out _).mono ?_; rintro e w' ⟨rfl, rfl⟩)
          go_roundw
          case rel => exact ⟨q + 1, by omega, by go_num, by rw [HO.out], HB.out⟩
          case measure => simp [intOf]; omega
    · have g1 : ¬ (q : Int) < (bl : Int) := by omega
      rw [h1, ← HL.out]
      rw [h1] at g1
      clear h1 h2 hq
      go_wp2
      go_ret
      exact ⟨rfl, H0.out.bel.trans (HB.out.mono H0.out.bel.size)⟩
    · have g1 : (q : Int) < (bl : Int) := by omega
      have g2 : ¬ (q : Int) < 4 := by omega
      rw [h1, ← HL.out]
      rw [h1] at g1 g2
      clear h1 h2 hq h3
      go_wp2
      go_ret
      exact ⟨rfl, H0.out.bel.trans (HB.out.mono H0.out.bel.size)⟩
end Tr
namespace Tr
attribute [local go_sem] Oper.semAt_some
open Go Go.ChangeShapes Go.WideShapes Go.ChangeAt Go.RowKit
open Tab Flat TabArg QL Ru Rg PlanM
theorem builtRd1 (a : Int) : Tryd.prog.built 34 [(1, I a)] = some #[I 0, I 0, I 0, I 0, I a, I 0] := by kernel_rfl
theorem eL15 (bu : List Bs) : eL 15 bu = List.range (nB bu) := by
  rw [eL_range, List.filter_eq_self]
  intro k hk
  have h4 : k < 4 := by have := List.mem_range.1 hk; unfold nB at this; omega
  match k, h4 with
  | 0, _ => exact rfl
  | 1, _ => exact rfl
  | 2, _ => exact rfl
  | 3, _ => exact rfl
theorem rride_any (T : Tab) (hd : Hd) (s : Rid) (ask : Int) (held round : Bool) (w : World) (ht : IsTab w hd T) : Calls Tryd.prog 17 #[.agg (T.cells hd).toArray, .agg s.cells.toArray, .int .i64 ask, .bool held, .bool round] w fun e w' => e = .returned (.agg (nextS T s ask held round).cells.toArray) ∧ Below w.heap.size w w' := by
  have h1 : (T.cells hd).length = 131 := by have := (cells_ok ht).size; rwa [List.size_toArray] at this
  have IA : (Tryd.prog.info? 31).map (·.size) = some (T.cells hd).length := by rw [h1]; exact May.infoT
  obtain ⟨live, hlive⟩ : ∃ l : Int, (liveS T s ask : Nat) = l := ⟨_, rfl⟩
  have LV : Hid (∀ W, Below w.heap.size w W → Calls Tryd.prog 11 #[.agg (T.cells hd).toArray, .agg s.cells.toArray, .int .i64 ask] W fun e w' => e = .returned (.int .i64 live) ∧ Below W.heap.size W w') := Lib.hid (fun W hb => by rw [← hlive]; exact rlive_any T hd s ask W (ht.below hb))
  obtain ⟨sp1, hsp1⟩ : ∃ x, (if round then 0 else s.sp) = x := ⟨_, rfl⟩
  obtain ⟨sp2, hsp2⟩ : ∃ x, (if held then Cnt.more sp1 else sp1) = x := ⟨_, rfl⟩
  have HL : Hid (nextS T s ask held round = (List.range (nB T.buses)).foldl (nxt1 T s ask) ⟨0, 0, 0, 0, live, sp2⟩) := Lib.hid (by
    unfold nextS spS
    rw [hlive, hsp1, ← hsp2, eL15])
  generalize nextS T s ask held round = res at HL ⊢
  have SP1 := Lib.hid hsp1
  have SP2 := Lib.hid hsp2
  clear hlive hsp1 hsp2
  have NW : Hid (∀ q, q ≤ nB T.buses → (q < T.buses.length ∧ q < 4 ∧ q < nB T.buses) ∨ (q = nB T.buses ∧ ¬ q < T.buses.length) ∨ (q = nB T.buses ∧ q < T.buses.length ∧ q = 4)) := Lib.hid (fun q h => nB_way h)
  have hcb := tab_bu ht
  have BUS : Hid (∀ q, q < T.buses.length → ∀ W, Below w.heap.size w W → ∃ x, hd.b.a = some x ∧ W.cell? (x.add (q * 2)) = some (I (busAt T.buses q).set) ∧ W.cell? ⟨(x.add (q * 2)).block, (x.add (q * 2)).off + 1, none⟩ = some (I (busAt T.buses q).lock)) := Lib.hid (fun q hq W hb => by
    obtain ⟨x, h1, h2⟩ := (ht.below hb).buses.at (bus_at hq)
    have c0 := h2 0 _ rfl
    have c1 := h2 1 _ rfl
    rw [Tab.add_zero] at c0
    rw [Tab.add_one] at c1
    exact ⟨x, h1, c0, c1⟩)
  generalize nB T.buses = m at *
  generalize hbl : T.buses.length = bl at *
  clear hbl
  have hn0 := Blk.Bks.nil w
  have hn1 := hn0.alloc (T.cells hd).toArray 31
  have hn2 := hn1.alloc s.cells.toArray 34
  rw [show (w.alloc (.cells (T.cells hd).toArray 31)).heap.size = w.heap.size + 1 by simp] at hn2
  have hn3 := hn2.alloc #[I 0, I 0, I 0, I 0, I 0, I 0] 34
  rw [show ((w.alloc (.cells (T.cells hd).toArray 31)).alloc (.cells s.cells.toArray 34)).heap.size = w.heap.size + 1 + 1 by simp] at hn3
  clear hn0
  clear hn1
  clear hn2
  go_enter Tryd.func17, Tryd.ntmps17
  go_upto_region 1 with fail
  generalize World.alloc (World.alloc (World.alloc w _) _) _ = v at hn3 ⊢
  generalize hg2 : w.heap.size + 1 + 1 = gz at hn3 ⊢
  generalize hg1 : w.heap.size + 1 = gs at hn3 ⊢
  generalize hg0 : w.heap.size = gt at hn3 ⊢
  clear hg0 hg1 hg2
  have H0 := Lib.hid hn3
  clear hn3
  go_cut [11] from 13 to 17 (fun t11 wx => ∃ gn, t11 = .pointer (some ⟨gn, 0, none⟩) ∧ Blk.Bks w [(gn, #[I 0, I 0, I 0, I 0, I live, I 0], 34), (gz, #[I 0, I 0, I 0, I 0, I 0, I 0], 34), (gs, s.cells.toArray, 34), (gt, (T.cells hd).toArray, 31)] wx)
  case first =>
    go_wp2_with (first | (refine Row.wpList_load_g 31 _ rfl (by first | rfl | (go_simp; done) | fail) ⟨gt, 0, none⟩ rfl (T.cells hd) _ (by have := H0.out.lies 2 rfl; simpa using this) Tryd.underlying31 rfl IA ?_) | (refine Row.wpList_load_g 34 _ rfl (by first | rfl | (go_simp; done) | fail) ⟨gs, 0, none⟩ rfl s.cells _ (seg H0.out 1 0 rfl _ rfl) Tryd.underlying34 rfl infoRd ?_))
    refine (LV.out _ H0.out.bel).mono ?_
    rintro e v1 ⟨rfl, b1⟩
    have H1 := Lib.hid (H0.out.step b1)
    clear b1
    go_wp2_with (first | (refine wpList_build rfl 34 [(1, .tmp 16)] rfl #[I 0, I 0, I 0, I 0, I live, I 0] _ (by rfl) (builtRd1 live) ?_) | (refine Row.wpList_store_new rfl 34 _ _ rfl _ _ #[I 0, I 0, I 0, I 0, I live, I 0] rfl rfl rfl infoRd rfl (by simp [Value.oneCell']) ?_))
    go_meet
    case rel => exact ⟨_, rfl, H1.out.alloc #[I 0, I 0, I 0, I 0, I live, I 0] 34⟩
  case rest =>
  obtain ⟨gn, rfl, hcut⟩ := hcut
  have H1 := Lib.hid hcut
  clear hcut H0 LV
  rename World => wx
  rename_i K hK
  refine hK _ _ ?_
  clear hK K
  refine wp_seq_k ?_
  intro K hK
  go_cut [] from 18 to 22 (fun wx => Blk.Bks w [(gn, #[I 0, I 0, I 0, I 0, I live, I sp1], 34), (gz, #[I 0, I 0, I 0, I 0, I 0, I 0], 34), (gs, s.cells.toArray, 34), (gt, (T.cells hd).toArray, 31)] wx)
  case first =>
    cases round
    · have e1 : sp1 = s.sp := SP1.out.symm
      subst e1
      have s5 : wx.cell? ⟨gs, 5, none⟩ = some (I s.sp) := H1.out.cell 2 5 rfl rfl
      have k5 : wx.cell? ⟨gn, 5, none⟩ = some (I 0) := H1.out.cell 0 5 rfl rfl
      have f5 : wx.frozen? ⟨gn, 5, none⟩ = false := H1.out.frozen 0 5 rfl
      go_wp2
      go_meet
      case rel => exact H1.out.set 0 5 rfl (I s.sp)
    · have e1 : sp1 = 0 := SP1.out.symm
      subst e1
      go_wp2
      go_meet
      case rel => exact H1.out
  case rest =>
  have H2 := Lib.hid hcut
  clear hcut
  rename World => wy
  clear H1 SP1
  refine hK _ _ ?_
  clear hK K
  refine wp_seq_k ?_
  intro K hK
  go_cut [] from 23 to 27 (fun wx => Blk.Bks w [(gn, #[I 0, I 0, I 0, I 0, I live, I sp2], 34), (gz, #[I 0, I 0, I 0, I 0, I 0, I 0], 34), (gs, s.cells.toArray, 34), (gt, (T.cells hd).toArray, 31)] wx)
  case first =>
    cases held
    · have e1 : sp2 = sp1 := SP2.out.symm
      subst e1
      go_wp2
      go_meet
      case rel => exact H2.out
    · obtain ⟨sp3, hsp3⟩ : ∃ x, Cnt.more sp1 = x := ⟨_, rfl⟩
      have e1 : sp2 = sp3 := by rw [← hsp3]; exact SP2.out.symm
      subst e1
      have OM : Hid (∀ W, Calls Tryd.prog 29 #[.int .i64 sp1] W fun e w' => e = .returned (.int .i64 sp2) ∧ W = w') := Lib.hid (fun W => by rw [← hsp3]; exact Cnt.rmore1_any sp1 W)
      have k5 : wy.cell? ⟨gn, 5, none⟩ = some (I sp1) := H2.out.cell 0 5 rfl rfl
      have f5 : wy.frozen? ⟨gn, 5, none⟩ = false := H2.out.frozen 0 5 rfl
      clear hsp3
      go_wp2_with (go_at_call 29; with_reducible refine (OM.out _).mono ?_; rintro e w' ⟨rfl, rfl⟩)
      go_meet
      case rel => exact H2.out.set 0 5 rfl (I sp2)
  case rest =>
  have H3 := Lib.hid hcut
  clear hcut
  rename World => wz
  clear H2 SP2
  refine hK _ _ ?_
  clear hK K
  go_wp2
  go_loopw [12] (fun k wr => ∃ q : Nat, q ≤ m ∧ k = .int .i64 q ∧ Blk.Bks w [(gn, ((List.range q).foldl (nxt1 T s ask) ⟨0, 0, 0, 0, live, sp2⟩).cells.toArray, 34), (gz, #[I 0, I 0, I 0, I 0, I 0, I 0], 34), (gs, s.cells.toArray, 34), (gt, (T.cells hd).toArray, 31)] wr) (fun k _ => m - (intOf k).toNat)
  case atStart => exact ⟨0, Nat.zero_le _, rfl, H3.out⟩
  case round =>
    obtain ⟨q, hq, rfl, hB⟩ := hrel
    have HB := Lib.hid hB
    have cb : wr.cell? ⟨gt, 115, none⟩ = some (.slice hd.b.a bl hd.b.cap) := hB.cell 3 115 rfl (by rw [List.getElem?_toArray]; exact hcb)
    clear hB H3
    rcases NW.out q hq with ⟨h1, h2, h3⟩ | ⟨h1, h2⟩ | ⟨h1, h2, h3⟩
    · have g1 : (q : Int) < (bl : Int) := by omega
      have g2 : (q : Int) < 4 := by omega
      have HO : Hid ((List.range (q + 1)).foldl (nxt1 T s ask) ⟨0, 0, 0, 0, live, sp2⟩ = nxt1 T s ask ((List.range q).foldl (nxt1 T s ask) ⟨0, 0, 0, 0, live, sp2⟩) q) := Lib.hid (by rw [List.range_succ, List.foldl_append]; rfl)
      generalize (List.range q).foldl (nxt1 T s ask) ⟨0, 0, 0, 0, live, sp2⟩ = r at HO HB
      obtain ⟨x, hx, c0, c1⟩ := BUS.out q h1 wr HB.out.bel
      rw [hx] at cb
      have N1 : Hid (nxt1 T s ask r q = if 0 < s.lk q then r.put q (wrap64 (s.lk q - 1)) else if SetM.has s.was q && !SetM.has ask q then r.put q (busAt T.buses q).lock else r) := Lib.hid rfl
      have cl : wr.cell? ⟨gs, q, none⟩ = some (I (s.lk q)) := HB.out.cell 2 q rfl (by rw [List.getElem?_toArray]; exact lk_at s h2)
      have cw : wr.cell? ⟨gs, 4, none⟩ = some (I s.was) := HB.out.cell 2 4 rfl rfl
      have cr : wr.cell? ⟨gn, q, none⟩ = some (I (r.lk q)) := HB.out.cell 0 q rfl (by rw [List.getElem?_toArray]; exact lk_at r h2)
      have fr : wr.frozen? ⟨gn, q, none⟩ = false := HB.out.frozen 0 q rfl
      have PA := Lib.hid (put_at r h2)
      by_cases hl : 0 < s.lk q
      · replace N1 := Lib.hid (N1.out.trans (if_pos hl))
        have d1 : decide (s.lk q > 0) = true := decide_eq_true hl
        go_wp2
        go_roundw
        case rel => exact ⟨q + 1, by omega, by go_num, by rw [HO.out, N1.out, ← PA.out]; exact HB.out.set 0 q rfl _⟩
        case measure => simp [intOf]; omega
      · replace N1 := Lib.hid (N1.out.trans (if_neg hl))
        have d1 : decide (s.lk q > 0) = false := decide_eq_false hl
        cases hw : SetM.has s.was q
        · rw [hw, Bool.false_and] at N1
          replace N1 := Lib.hid (N1.out.trans (if_neg (by simp)))
          have HB1 := Lib.hid (fun w => rbit_is (show q < 8 by omega) hw w)
          clear hw
          go_wp2_with (go_at_call 22; with_reducible refine (HB1.out _).mono ?_; rintro e w' ⟨rfl, rfl⟩)
          go_roundw
          case rel => exact ⟨q + 1, by omega, by go_num, by rw [HO.out, N1.out]; exact HB.out⟩
          case measure => simp [intOf]; omega
        · rw [hw, Bool.true_and] at N1
          have HB1 := Lib.hid (fun w => rbit_is (show q < 8 by omega) hw w)
          clear hw
          cases ha : SetM.has ask q
          · rw [ha] at N1
            replace N1 := Lib.hid (N1.out.trans (if_pos rfl))
            have HB2 := Lib.hid (fun w => rbit_is (show q < 8 by omega) ha w)
            clear ha
            go_wp2_with (first | (go_at_call 22; with_reducible refine (HB1.out _).mono ?_; rintro e w' ⟨rfl, rfl⟩) | (go_at_call 22; with_reducible refine (HB2.out _).mono ?_; rintro e w' ⟨rfl, rfl⟩))
            go_roundw
            case rel => exact ⟨q + 1, by omega, by go_num, by rw [HO.out, N1.out, ← PA.out]; exact HB.out.set 0 q rfl _⟩
            case measure => simp [intOf]; omega
          · rw [ha] at N1
            replace N1 := Lib.hid (N1.out.trans (if_neg (by simp)))
            have HB2 := Lib.hid (fun w => rbit_is (show q < 8 by omega) ha w)
            clear ha
            go_wp2_with (first | (go_at_call 22; with_reducible refine (HB1.out _).mono ?_; rintro e w' ⟨rfl, rfl⟩) | (go_at_call 22; with_reducible refine (HB2.out _).mono ?_; rintro e w' ⟨rfl, rfl⟩))
            go_roundw
            case rel => exact ⟨q + 1, by omega, by go_num, by rw [HO.out, N1.out]; exact HB.out⟩
            case measure => simp [intOf]; omega
    · have g1 : ¬ (q : Int) < (bl : Int) := by omega
      rw [h1] at g1 HB
      rw [h1]
      rw [← HL.out] at HB
      clear h1 h2 hq
      go_wp2_with (first | (refine Row.wpList_load_g 34 _ rfl (by first | rfl | (go_simp; done) | fail) ⟨gn, 0, none⟩ rfl res.cells _ (seg HB.out 0 0 rfl _ rfl) Tryd.underlying34 rfl infoRd ?_) | (refine wpList_store_row rfl 34 _ _ rfl gz res.cells.toArray rfl rfl 34 _ (HB.out.at 1 rfl) infoRd rfl (one_rd _) ?_))
      have hput := HB.out.put 1 rfl res.cells.toArray
      simp only [List.set_cons_succ, List.set_cons_zero] at hput
      generalize World.setRow wr gz _ = w9 at hput ⊢
      have HG := Lib.hid hput
      clear hput
      (try simp only [Exit.inBlock, Exit.then])
      refine bodyPost_ret (v := .agg res.cells.toArray) ?_ rfl ⟨rfl, HG.out.bel⟩
      exact results_cell_row rfl _ _ gz 34 _ (0, 0) _ rfl (HG.out.at 1 rfl) Tryd.underlying34 rfl infoRd
    · have g1 : (q : Int) < (bl : Int) := by omega
      have g2 : ¬ (q : Int) < 4 := by omega
      rw [h1] at g1 g2 HB
      rw [h1]
      rw [← HL.out] at HB
      clear h1 h2 hq h3
      go_wp2_with (first | (refine Row.wpList_load_g 34 _ rfl (by first | rfl | (go_simp; done) | fail) ⟨gn, 0, none⟩ rfl res.cells _ (seg HB.out 0 0 rfl _ rfl) Tryd.underlying34 rfl infoRd ?_) | (refine wpList_store_row rfl 34 _ _ rfl gz res.cells.toArray rfl rfl 34 _ (HB.out.at 1 rfl) infoRd rfl (one_rd _) ?_))
      have hput := HB.out.put 1 rfl res.cells.toArray
      simp only [List.set_cons_succ, List.set_cons_zero] at hput
      generalize World.setRow wr gz _ = w9 at hput ⊢
      have HG := Lib.hid hput
      clear hput
      (try simp only [Exit.inBlock, Exit.then])
      refine bodyPost_ret (v := .agg res.cells.toArray) ?_ rfl ⟨rfl, HG.out.bel⟩
      exact results_cell_row rfl _ _ gz 34 _ (0, 0) _ rfl (HG.out.at 1 rfl) Tryd.underlying34 rfl infoRd
end Tr
namespace Tr
attribute [local go_sem] Oper.semAt_some
open Go Go.ChangeShapes Go.WideShapes Go.ChangeAt Go.RowKit
open Tab Flat TabArg QL Ru Rg PlanM
theorem low_or (s t : Int) : SetM.low (bits .or .i64 s t) = SetM.low s ||| SetM.low t := by
  show SetM.low (IntKind.i64.wrap ((BitVec.ofInt 64 s ||| BitVec.ofInt 64 t).toNat : Nat)) = _
  rw [SetM.low_wrap, BitVec.toNat_or, ← SetM.toNat_low s, ← SetM.toNat_low t]
  have h2 : ((BitVec.ofInt 64 s).toNat ||| (BitVec.ofInt 64 t).toNat) % 2 ^ 8 = _ := Nat.or_mod_two_pow
  exact h2
theorem low_and (s t : Int) : SetM.low (bits .and .i64 s t) = SetM.low s &&& SetM.low t := by
  show SetM.low (IntKind.i64.wrap ((BitVec.ofInt 64 s &&& BitVec.ofInt 64 t).toNat : Nat)) = _
  rw [SetM.low_wrap, BitVec.toNat_and, ← SetM.toNat_low s, ← SetM.toNat_low t]
  have h2 : ((BitVec.ofInt 64 s).toNat &&& (BitVec.ofInt 64 t).toNat) % 2 ^ 8 = _ := Nat.and_mod_two_pow
  exact h2
theorem has_or (s t q : Int) : SetM.has (bits .or .i64 s t) q = (SetM.has s q || SetM.has t q) := by
  unfold SetM.has
  rw [low_or, Nat.testBit_or]
  cases decide (0 ≤ q) <;> simp
theorem has_and (s t q : Int) : SetM.has (bits .and .i64 s t) q = (SetM.has s q && SetM.has t q) := by
  unfold SetM.has
  rw [low_and, Nat.testBit_and]
  cases decide (0 ≤ q) <;> simp
theorem has_zero (q : Int) : SetM.has 0 q = false := by
  unfold SetM.has
  rw [show SetM.low 0 = 0 from rfl, Nat.zero_testBit, Bool.and_false]
theorem has_lt {s q : Int} (h : SetM.has s q = true) : 0 ≤ q ∧ q < 8 := SetM.list_bd s q ((SetM.mem_list s q).2 h)
theorem has_aS (bu : List Bs) (l : List Nat) (q : Int) : SetM.has (aS bu l) q = l.any fun k => SetM.has (busAt bu k).set q := by
  have key : ∀ (l : List Nat) (m : Int), SetM.has (l.foldl (fun m k => bits .or .i64 m (busAt bu k).set) m) q = (SetM.has m q || l.any fun k => SetM.has (busAt bu k).set q) := by
    intro l
    induction l with
    | nil => intro m; simp
    | cons k l ih =>
      intro m
      rw [List.foldl_cons, ih, has_or, List.any_cons, Bool.or_assoc]
  unfold aS
  rw [key, has_zero, Bool.false_or]
theorem has_ofL (l : List Int) (q : Int) : SetM.has (SetM.of l : Nat) q = decide (q ∈ l ∧ 0 ≤ q ∧ q < 8) := by
  by_cases h0 : 0 ≤ q
  · obtain ⟨k, rfl⟩ := Int.eq_ofNat_of_zero_le h0
    rw [SetM.has_nat, SetM.low_nat _ (SetM.of_lt l), SetM.of_test]
    exact decide_eq_decide.2 ⟨fun ⟨h1, h2⟩ => ⟨h1, h0, by omega⟩, fun ⟨h1, _, h2⟩ => ⟨h1, by omega⟩⟩
  · rw [SetM.has_neg _ _ (by omega), decide_eq_false (fun h => h0 h.2.1)]
theorem has_fZ (f : Int → Bool) (s q : Int) : SetM.has (fZ f (SetM.list s) : Nat) q = (SetM.has s q && f q) := by
  unfold fZ
  rw [has_ofL]
  cases hq : SetM.has s q
  · rw [Bool.false_and]
    refine decide_eq_false fun ⟨h1, _⟩ => ?_
    have := (SetM.mem_list s q).1 (List.mem_filter.1 h1).1
    rw [hq] at this; cases this
  · rw [Bool.true_and]
    cases hf : f q
    · exact decide_eq_false fun ⟨h1, _⟩ => by have := (List.mem_filter.1 h1).2; rw [hf] at this; cases this
    · exact decide_eq_true ⟨List.mem_filter.2 ⟨(SetM.mem_list s q).2 hq, hf⟩, has_lt hq⟩
end Tr
namespace GenG
open Go.ChangeShapes Go.WideShapes Go.ChangeAt Go.RowKit
open Tab Gath
open RefS (num from_any num_range ret_int)
/-- m phases from p on. -/
def seg (p m : Nat) : List Int := (List.range m).map fun i => ((p + i : Nat) : Int)
theorem seg_len (p m : Nat) : (seg p m).length = m := by simp [seg]
theorem seg_succ (p m : Nat) : seg p (m + 1) = seg p m ++ [((p + m : Nat) : Int)] := by unfold seg; rw [List.range_succ, List.map_append]; rfl
def lim (G g : Nat) : Nat := 9 + g - G
def want0 (L : List Int) (g : Nat) : Nat := (num L (1 + 2 * g) 3).toNat
def want1 (L : List Int) (g : Nat) (m : Nat) : Nat := if num L (2 + 2 * g) 3 = 0 ∧ m = 0 then 1 else (num L (2 + 2 * g) 3).toNat
def n0 (L : List Int) (G g p : Nat) : Nat := min (want0 L g) (lim G g - p)
def n1 (L : List Int) (G g p : Nat) : Nat := min (want1 L g (n0 L G g p)) (lim G g - (p + n0 L G g p))
def grpD (L : List Int) (G g p : Nat) : List Int × List Int := (seg p (n0 L G g p), seg (p + n0 L G g p) (n1 L G g p))
def upTo (L : List Int) (G : Nat) : Nat → List (List Int × List Int) × Nat
  | 0 => ([], 0)
  | g + 1 => ((upTo L G g).1 ++ [grpD L G g (upTo L G g).2], (upTo L G g).2 + n0 L G g (upTo L G g).2 + n1 L G g (upTo L G g).2)
def genG (L : List Int) : Nat := (1 + num L 0 3).toNat
def genGs (L : List Int) : List (List Int × List Int) := (upTo L (genG L) (genG L)).1
def genN (L : List Int) : Nat := (upTo L (genG L) (genG L)).2
theorem genG_range (L : List Int) : 1 ≤ genG L ∧ genG L ≤ 3 := by have := num_range L 0 3 (by omega); unfold genG; omega
theorem want0_le (L : List Int) (g : Nat) : want0 L g ≤ 2 := by have := num_range L (1 + 2 * g) 3 (by omega); unfold want0; omega
theorem want1_le (L : List Int) (g m : Nat) : want1 L g m ≤ 2 := by have := num_range L (2 + 2 * g) 3 (by omega); unfold want1; split <;> omega
theorem up_le (L : List Int) (G : Nat) (hG : G ≤ 3) : ∀ g, g ≤ G → (upTo L G g).2 ≤ 8
  | 0, _ => Nat.zero_le _
  | g + 1, h => by
    have := up_le L G hG g (by omega)
    show (upTo L G g).2 + n0 L G g (upTo L G g).2 + n1 L G g (upTo L G g).2 ≤ 8
    unfold n1 n0 lim
    omega
theorem up_len (L : List Int) (G : Nat) : ∀ g, (upTo L G g).1.length = g
  | 0 => rfl
  | g + 1 => by show ((upTo L G g).1 ++ [_]).length = g + 1; rw [List.length_append, up_len L G g]; rfl
/-- A row of integers, in a block of integers. -/
def RowI (w : World) (s : Sl) (l : List Int) : Prop := IntRow w s l ∧ ∀ x, s.a = some x → ∃ cs : Array Value, w.heap[x.block]? = some (.cells cs 3 (0, 0))
theorem RowI.below {w w' : World} {s : Sl} {l : List Int} (h : RowI w s l) (hb : Below w.heap.size w w') : RowI w' s l := ⟨h.1.below hb, fun x hx => by
  obtain ⟨cs, hc⟩ := h.2 x hx
  exact ⟨cs, (hb.block _ (Array.getElem?_eq_some_iff.1 hc).1).trans hc⟩⟩
theorem add_block (x : Addr) (k : Nat) : (x.add k).block = x.block := by unfold Addr.add; split <;> rfl
theorem RowI.grown {w w' : World} {s : Sl} {l : List Int} {row : Option Nat} (h : RowI w s l) (hg : w.grownBy w' row) (hne : ∀ x, s.a = some x → some x.block ≠ row) : RowI w' s l := by
  refine ⟨?_, fun x hx => ?_⟩
  · rcases h.1 with h | ⟨x, h1, h2, h3, h4⟩
    · exact .inl h
    · exact .inr ⟨x, h1, h2, h3, fun i v hv j u hu => hg.cell (h4 i v hv j u hu) (by rw [add_block, add_block]; exact hne x h1)⟩
  · obtain ⟨cs, hc⟩ := h.2 x hx
    exact ⟨cs, (hg.block _ (Array.getElem?_eq_some_iff.1 hc).1 (hne x hx)).trans hc⟩
/-- It lies in another block than one of another type. -/
theorem RowI.ne {w : World} {s : Sl} {l : List Int} {b : Nat} {cs : Array Value} {t : TypeId} (h : RowI w s l) (hb : w.heap[b]? = some (.cells cs t (0, 0))) (ht : t ≠ 3) : ∀ x, s.a = some x → x.block ≠ b := by
  intro x hx e
  obtain ⟨ds, hc⟩ := h.2 x hx
  rw [e, hb] at hc
  simp at hc
  exact ht hc.2
theorem grown_set (W : World) (b i : Nat) (v : Value) : W.grownBy (W.setCell ⟨b, i, none⟩ v) (some b) :=
  ⟨rfl, rfl, rfl, by simp, fun j _ hj => heap_setCell_other _ _ _ _ (fun e => hj (by rw [e]))⟩
theorem own_row {B : Nat} {w : World} {v : Value} {l : List Int} (h : Owns (fun n => [I n]) 1 B w 3 v l) : ∃ s : Sl, v = s.val l.length ∧ RowI w s l := by
  obtain ⟨s, hs, hr⟩ := Owns.row h (enc := fun n => [I n]) (fun _ => rfl)
  refine ⟨s, hs, hr, fun x hx => ?_⟩
  rcases h.2 with ⟨e, _⟩ | ⟨g, cap, cur, e, h1, h2, _⟩
  · rw [hs] at e
    simp [Sl.val, hx] at e
  · rw [hs] at e
    simp [Sl.val, hx] at e
    obtain ⟨rfl, _⟩ := e
    exact ⟨cur, h2⟩
theorem own_kept {α : Type} {enc : α → List Value} {n B : Nat} {w w' : World} {t : TypeId} {v : Value} {l : List α} {row : Option Nat} (h : Owns enc n B w t v l) (hg : w.grownBy w' row) (hne : ∀ m, v.ownBlock = some m → row ≠ some m) : Owns enc n B w' t v l :=
  World.ownsRow.kept h hg (by
    cases e : v.ownBlock with
    | none => exact .inl rfl
    | some m => exact .inr (fun e' => hne m e e'.symm))
theorem own_lt {α : Type} {enc : α → List Value} {n B : Nat} {w : World} {t : TypeId} {v : Value} {l : List α} (h : Owns enc n B w t v l) : ∀ m, v.ownBlock = some m → m < w.heap.size := by
  intro m hm
  rcases h.2 with ⟨rfl, _⟩ | ⟨g, cap, cur, rfl, h1, h2, _⟩
  · simp [Value.ownBlock] at hm
  · simp [Value.ownBlock] at hm
    subst hm
    exact (Array.getElem?_eq_some_iff.1 h2).1
theorem own_type {α : Type} {enc : α → List Value} {n B : Nat} {w : World} {t : TypeId} {v : Value} {l : List α} (h : Owns enc n B w t v l) : ∀ m, v.ownBlock = some m → ∃ cs : Array Value, w.heap[m]? = some (.cells cs t (0, 0)) := by
  intro m hm
  rcases h.2 with ⟨rfl, _⟩ | ⟨g, cap, cur, rfl, h1, h2, _⟩
  · simp [Value.ownBlock] at hm
  · simp [Value.ownBlock] at hm
    subst hm
    exact ⟨cur, h2⟩
theorem own_ne {α : Type} {enc : α → List Value} {n B : Nat} {w : World} {t t' : TypeId} {v : Value} {l : List α} {b : Nat} {cs : Array Value} (h : Owns enc n B w t v l) (hb : w.heap[b]? = some (.cells cs t' (0, 0))) (ht : t' ≠ t) : v.ownBlock ≠ some b := by
  intro e
  obtain ⟨ds, hd⟩ := own_type h b e
  rw [hb] at hd
  simp at hd
  exact ht hd.2
theorem grown_below {w w' : World} (hb : Below w.heap.size w w') (row : Option Nat) : w.grownBy w' row := ⟨hb.os, hb.tape, hb.output, hb.size, fun j hj _ => hb.block j hj⟩
theorem grown_trans {w w1 w2 : World} {b : Nat} {row : Option Nat} (h : w.grownBy w1 (some b)) (h2 : w1.grownBy w2 row) (hr : ∀ m, row = some m → m = b ∨ w.heap.size ≤ m) : w.grownBy w2 (some b) := by
  refine ⟨h2.os.trans h.os, h2.tape.trans h.tape, h2.output.trans h.output, Nat.le_trans h.size h2.size, fun j hj hne => ?_⟩
  rw [h2.block j (Nat.lt_of_lt_of_le hj h.size) (fun e => by rcases hr j e.symm with e' | e'; exact hne (by rw [e']); omega), h.block j hj hne]
/-- One group while its first row is filled. -/
structure G0 (Bg : Nat) (w1 : World) (a : Option Addr) (c : Nat) (p i : Nat) (W : World) : Prop where
  bel : Below Bg w1 W
  box : W.heap[Bg]? = some (.cells #[.slice a i c, .slice none 0 0] 86 (0, 0))
  own : Owns (fun n => [I n]) 1 (Bg + 1) W 3 (.slice a i c) (seg p i)
theorem G0.step {Bg : Nat} {w1 W W' : World} {a : Option Addr} {c p i : Nat} (h : G0 Bg w1 a c p i W) (hb : Below W.heap.size W W') (hB : Bg ≤ W.heap.size) : G0 Bg w1 a c p i W' :=
  ⟨h.bel.trans (hb.mono hB), (hb.block _ (Array.getElem?_eq_some_iff.1 h.box).1).trans h.box, h.own.below hb⟩
theorem G0.put {Bg : Nat} {w1 W W' : World} {a : Option Addr} {c p i : Nat} {v' : Value} (h : G0 Bg w1 a c p i W) (hB : Bg + 1 ≤ W.heap.size) (hg : W.grownBy W' (Value.slice a i c).ownBlock)
    (ho : W'.ownsRow (Bg + 1) 3 1 v' (i + 1) ((seg p i).flatMap (fun n => [I n]) ++ [I ((p + i : Nat) : Int)])) :
    (W'.heap[Bg]? = some (.cells #[.slice a i c, .slice none 0 0] 86 (0, 0))) ∧ ∃ a' c', v' = .slice a' (i + 1) c' ∧ G0 Bg w1 a' c' p (i + 1) (W'.setCell ⟨Bg, 0, none⟩ v') := by
  have hne : some Bg ≠ (Value.slice a i c).ownBlock := fun e => by have := h.own.blk _ e.symm; omega
  have hbx := (hg.block Bg (by omega) hne).trans h.box
  have hO : Owns (fun n => [I n]) 1 (Bg + 1) W' 3 v' (seg p (i + 1)) := by
    rw [seg_succ]; refine Owns.snoc ?_; rw [seg_len]; exact ho
  obtain ⟨⟨a', c'⟩, hs, hr⟩ := own_row hO
  rw [seg_len] at hs
  refine ⟨hbx, a', c', hs, ?_⟩
  have hB' : Bg ≤ W'.heap.size := Nat.le_trans (by omega) hg.size
  refine ⟨?_, ?_, ?_⟩
  · exact (h.bel.grown hg (by omega) (fun k hk => by have := h.own.blk k hk; omega)).setCell (p := ⟨Bg, 0, none⟩) (Nat.le_refl _) v'
  · rw [heap_setCell_same _ _ _ _ _ _ hbx, hs]; rfl
  · rw [hs] at hO ⊢
    exact own_kept hO (grown_set _ _ _ _) (fun m hm e => by have := hO.blk m hm; cases e; omega)
/-- One group while its second row is filled. -/
structure G1 (Bg : Nat) (w1 : World) (B1 : Nat) (a : Option Addr) (c : Nat) (p m : Nat) (a1 : Option Addr) (c1 : Nat) (i : Nat) (W : World) : Prop where
  bel : Below Bg w1 W
  box : W.heap[Bg]? = some (.cells #[.slice a m c, .slice a1 i c1] 86 (0, 0))
  own : Owns (fun n => [I n]) 1 (Bg + 1) W 3 (.slice a m c) (seg p m)
  lt : ∀ j, (Value.slice a m c).ownBlock = some j → j < B1
  own1 : Owns (fun n => [I n]) 1 B1 W 3 (.slice a1 i c1) (seg (p + m) i)
  sz : B1 ≤ W.heap.size
theorem G0.next {Bg : Nat} {w1 W : World} {a : Option Addr} {c p m : Nat} (h : G0 Bg w1 a c p m W) : G1 Bg w1 W.heap.size a c p m none 0 0 W :=
  ⟨h.bel, h.box, h.own, own_lt h.own, Owns.nil, Nat.le_refl _⟩
theorem G1.step {Bg B1 : Nat} {w1 W W' : World} {a a1 : Option Addr} {c p m c1 i : Nat} (h : G1 Bg w1 B1 a c p m a1 c1 i W) (hb : Below W.heap.size W W') (hB : Bg ≤ W.heap.size) : G1 Bg w1 B1 a c p m a1 c1 i W' :=
  ⟨h.bel.trans (hb.mono hB), (hb.block _ (Array.getElem?_eq_some_iff.1 h.box).1).trans h.box, h.own.below hb, h.lt, h.own1.below hb, Nat.le_trans h.sz hb.size⟩
theorem G1.put {Bg B1 : Nat} {w1 W W' : World} {a a1 : Option Addr} {c p m c1 i : Nat} {v' : Value} (h : G1 Bg w1 B1 a c p m a1 c1 i W) (h1 : Bg < B1) (hB : B1 ≤ W.heap.size) (hg : W.grownBy W' (Value.slice a1 i c1).ownBlock)
    (ho : W'.ownsRow B1 3 1 v' (i + 1) ((seg (p + m) i).flatMap (fun n => [I n]) ++ [I ((p + m + i : Nat) : Int)])) :
    (W'.heap[Bg]? = some (.cells #[.slice a m c, .slice a1 i c1] 86 (0, 0))) ∧ ∃ a' c', v' = .slice a' (i + 1) c' ∧ G1 Bg w1 B1 a c p m a' c' (i + 1) (W'.setCell ⟨Bg, 1, none⟩ v') := by
  have hne : some Bg ≠ (Value.slice a1 i c1).ownBlock := fun e => by have := h.own1.blk _ e.symm; omega
  have hbx := (hg.block Bg (by omega) hne).trans h.box
  have hO : Owns (fun n => [I n]) 1 B1 W' 3 v' (seg (p + m) (i + 1)) := by
    rw [seg_succ]; refine Owns.snoc ?_; rw [seg_len]; exact ho
  have hO0 : Owns (fun n => [I n]) 1 (Bg + 1) W' 3 (.slice a m c) (seg p m) := own_kept h.own hg (fun j hj e => by have := h.lt j hj; have := h.own1.blk j e; omega)
  obtain ⟨⟨a', c'⟩, hs, hr⟩ := own_row hO
  rw [seg_len] at hs
  refine ⟨hbx, a', c', hs, ?_⟩
  have hB' : Bg ≤ W'.heap.size := Nat.le_trans (by omega) hg.size
  refine ⟨?_, ?_, ?_, h.lt, ?_, by simp; exact Nat.le_trans h.sz hg.size⟩
  · exact (h.bel.grown hg (by omega) (fun k hk => by have := h.own1.blk k hk; omega)).setCell (p := ⟨Bg, 1, none⟩) (Nat.le_refl _) v'
  · rw [heap_setCell_same _ _ _ _ _ _ hbx, hs]; rfl
  · exact own_kept hO0 (grown_set _ _ _ _) (fun m hm e => by have := hO0.blk m hm; cases e; omega)
  · rw [hs] at hO ⊢
    exact own_kept hO (grown_set _ _ _ _) (fun m hm e => by have := hO.blk m hm; cases e; omega)
/-- The groups so far. -/
structure GS (w : World) (tb : Nat) (cs : List Value) (ga : Option Addr) (gc : Nat) (g : Nat) (gs : List Gr) (W : World) : Prop where
  gb : w.grownBy W (some tb)
  tbk : W.heap[tb]? = some (.cells (cs.set 104 (.slice ga g gc)).toArray 31 (0, 0))
  own : Owns Gr.cells 2 w.heap.size W 86 (.slice ga g gc) gs
  len : gs.length = g
  rows : ∀ x ∈ gs, RowI W x.s0 x.r0 ∧ RowI W x.s1 x.r1
theorem GS.step {w W W' : World} {tb : Nat} {cs : List Value} {ga : Option Addr} {gc g : Nat} {gs : List Gr} (h : GS w tb cs ga gc g gs W) (hb : Below W.heap.size W W') : GS w tb cs ga gc g gs W' :=
  ⟨grown_trans h.gb (grown_below hb none) (fun m e => by cases e), (hb.block _ (Array.getElem?_eq_some_iff.1 h.tbk).1).trans h.tbk, h.own.below hb, h.len, fun x hx => ⟨(h.rows x hx).1.below hb, (h.rows x hx).2.below hb⟩⟩
theorem GS.put {w W W' : World} {tb : Nat} {cs : List Value} {ga : Option Addr} {gc g : Nat} {gs : List Gr} {v' : Value} (x : Gr) (h : GS w tb cs ga gc g gs W) (hx : RowI W x.s0 x.r0 ∧ RowI W x.s1 x.r1) (hg : W.grownBy W' (Value.slice ga g gc).ownBlock) (hc : cs.length = 131)
    (ho : W'.ownsRow w.heap.size 86 2 v' (g + 1) (gs.flatMap Gr.cells ++ x.cells)) :
    (W'.heap[tb]? = some (.cells (cs.set 104 (.slice ga g gc)).toArray 31 (0, 0))) ∧ ∃ a' c', v' = .slice a' (g + 1) c' ∧ GS w tb cs a' c' (g + 1) (gs ++ [x]) (W'.setCell ⟨tb, 104, none⟩ v') := by
  have hne : some tb ≠ (Value.slice ga g gc).ownBlock := fun e => own_ne h.own h.tbk (by decide) e.symm
  have hbx := (hg.block tb (Array.getElem?_eq_some_iff.1 h.tbk).1 hne).trans h.tbk
  have hO : Owns Gr.cells 2 w.heap.size W' 86 v' (gs ++ [x]) := Owns.snoc (by rw [h.len]; exact ho)
  obtain ⟨⟨a', c'⟩, hs, hr⟩ := Owns.row hO (fun _ => rfl)
  have hs2 : v' = .slice a' (g + 1) c' := by rw [hs, List.length_append, h.len]; rfl
  have hK : ∀ s l, RowI W s l → RowI (W'.setCell ⟨tb, 104, none⟩ v') s l := fun s l hr => by
    have h1 : RowI W' s l := hr.grown hg (fun y hy e => by
      obtain ⟨ds, hd⟩ := own_type h.own _ e.symm
      exact hr.ne hd (by decide) y hy rfl)
    exact h1.grown (grown_set _ _ _ _) (fun y hy e => h1.ne hbx (by decide) y hy (by cases e; rfl))
  refine ⟨hbx, a', c', hs2, ?_, ?_, ?_, by rw [List.length_append, h.len]; rfl, ?_⟩
  · exact grown_trans (grown_trans h.gb hg (fun m e => .inr (h.own.blk m e))) (grown_set _ _ _ _) (fun m e => .inl (by cases e; rfl))
  · rw [heap_setCell_same _ _ _ _ _ _ hbx, hs2]
    simp
  · rw [← hs2]
    exact own_kept hO (grown_set _ _ _ _) (fun m hm e => by cases e; exact own_ne hO hbx (by decide) hm)
  · intro y hy
    rcases List.mem_append.1 hy with hy | hy
    · exact ⟨hK _ _ (h.rows y hy).1, hK _ _ (h.rows y hy).2⟩
    · obtain rfl : y = x := by simpa using hy
      exact ⟨hK _ _ hx.1, hK _ _ hx.2⟩
theorem from_at (a : Option Addr) (cap : Nat) (L : List Int) (i j n : Int) (hij : i = j) (w : World) (h : IntRow w ⟨a, cap⟩ L) (h0 : 0 ≤ i) (hn : 0 < n) (hn' : n ≤ 1000) :
    Calls Tryd.prog 33 #[.slice a L.length cap, .int .i64 i, .int .i64 n] w fun e w' => e = .returned (.int .i64 (num L j n)) ∧ w = w' := by
  subst hij; exact from_any a cap L i n w h h0 hn hn'
theorem infoGz : (Tryd.prog.info? 86).map (fun i => (i.zero, i.size)) = some (some (.agg #[.slice none 0 0, .slice none 0 0]), 2) := by kernel_rfl
theorem infoG2 : (Tryd.prog.info? 86).map (·.size) = some 2 := by kernel_rfl
theorem infoG3 : (Tryd.prog.info? 86).map (fun i => (i.zero, i.size, i.bytes)) = some (some (.agg #[.slice none 0 0, .slice none 0 0]), 2, 48) := by kernel_rfl
end GenG
namespace Same
open Go.ChangeShapes Go.WideShapes Go.ChangeAt Go.RowKit
open Tab
open May (ret_bool chain take_succ' infoP infoG infoD infoR infoB row_new)
end Same
namespace Same
open Go.ChangeShapes Go.WideShapes Go.ChangeAt Go.RowKit
open Tab
open May (ret_bool chain take_succ' infoP infoG infoD infoR infoB row_new)
end Same
namespace Same
open Go.ChangeShapes Go.WideShapes Go.ChangeAt Go.RowKit
open Tab
open May (ret_bool chain take_succ' infoP infoG infoD infoR infoB row_new St)
theorem below_setRow {B : Nat} {a w : World} (h : Below B a w) {g : Nat} (hg : B ≤ g) (cs : Array Value) : Below B a (w.setRow g cs) :=
  h.trans ⟨rfl, rfl, rfl, by simp [World.setRow], fun j hj => setRow_other _ _ _ _ (by omega)⟩
end Same
namespace GenP
open Go.ChangeShapes Go.WideShapes Go.ChangeAt Go.RowKit
open Tab Clone RefS
open May (infoP)
open Same (below_setRow)
theorem infoPz : (Tryd.prog.info? 23).map (fun i => (i.zero, i.size)) = some (some (.agg zPh.cells.toArray), 13) := by kernel_rfl
def recall (x walk : Int) : Int := if x > 3 ∨ x = 3 ∧ walk = 0 then 0 else x
/-- A phase by twelve numbers. -/
def genPh (L : List Int) (i : Int) : Ph :=
  let min := 1 + num L i 12
  let max := min + num L (i + 5) 25
  let walks := num L (i + 7) 2 = 1
  let walk := if walks then 1 + num L (i + 8) 10 else 0
  ⟨true, min, num L (i + 1) 9, max, max + num L (i + 6) 15, 1 + num L (i + 2) 6, 10 + num L (i + 3) 4, num L (i + 4) 5, walk, if walks then 1 + num L (i + 8) 97 / 10 else 0, recall (num L (i + 9) 7) walk, decide (num L (i + 10) 3 > 0), decide (num L (i + 11) 4 = 1)⟩
theorem phase_any (a : Option Addr) (cap : Nat) (L : List Int) (i : Int) (w : World) (h : IntRow w ⟨a, cap⟩ L) (h0 : 0 ≤ i) (h1 : i ≤ 100000) :
    Calls Tryd.prog 31 #[.slice a L.length cap, .int .i64 i] w fun e w' => e = .returned (.agg (genPh L i).cells.toArray) ∧ Below w.heap.size w w' := by
  obtain ⟨x0, hx0, ⟨r0, s0⟩, F0⟩ : ∃ x : Int, x = num L i 12 ∧ (0 ≤ x ∧ x < 12) ∧ Hid (∀ W, Below w.heap.size w W → Calls Tryd.prog 33 #[.slice a L.length cap, .int .i64 i, .int .i64 12] W fun e w' => e = .returned (.int .i64 x) ∧ w' = W) := ⟨_, rfl, num_range _ _ _ (by omega), Lib.hid (fun W hb => (from_any a cap L _ _ W (h.below hb) (by omega) (by omega) (by omega)).mono fun _ _ ⟨e, q⟩ => ⟨e, q.symm⟩)⟩
  obtain ⟨x1, hx1, ⟨r1, s1⟩, F1⟩ : ∃ x : Int, x = num L (i + 1) 9 ∧ (0 ≤ x ∧ x < 9) ∧ Hid (∀ W, Below w.heap.size w W → Calls Tryd.prog 33 #[.slice a L.length cap, .int .i64 (i + 1), .int .i64 9] W fun e w' => e = .returned (.int .i64 x) ∧ w' = W) := ⟨_, rfl, num_range _ _ _ (by omega), Lib.hid (fun W hb => (from_any a cap L _ _ W (h.below hb) (by omega) (by omega) (by omega)).mono fun _ _ ⟨e, q⟩ => ⟨e, q.symm⟩)⟩
  obtain ⟨x2, hx2, ⟨r2, s2⟩, F2⟩ : ∃ x : Int, x = num L (i + 2) 6 ∧ (0 ≤ x ∧ x < 6) ∧ Hid (∀ W, Below w.heap.size w W → Calls Tryd.prog 33 #[.slice a L.length cap, .int .i64 (i + 2), .int .i64 6] W fun e w' => e = .returned (.int .i64 x) ∧ w' = W) := ⟨_, rfl, num_range _ _ _ (by omega), Lib.hid (fun W hb => (from_any a cap L _ _ W (h.below hb) (by omega) (by omega) (by omega)).mono fun _ _ ⟨e, q⟩ => ⟨e, q.symm⟩)⟩
  obtain ⟨x3, hx3, ⟨r3, s3⟩, F3⟩ : ∃ x : Int, x = num L (i + 3) 4 ∧ (0 ≤ x ∧ x < 4) ∧ Hid (∀ W, Below w.heap.size w W → Calls Tryd.prog 33 #[.slice a L.length cap, .int .i64 (i + 3), .int .i64 4] W fun e w' => e = .returned (.int .i64 x) ∧ w' = W) := ⟨_, rfl, num_range _ _ _ (by omega), Lib.hid (fun W hb => (from_any a cap L _ _ W (h.below hb) (by omega) (by omega) (by omega)).mono fun _ _ ⟨e, q⟩ => ⟨e, q.symm⟩)⟩
  obtain ⟨x4, hx4, ⟨r4, s4⟩, F4⟩ : ∃ x : Int, x = num L (i + 4) 5 ∧ (0 ≤ x ∧ x < 5) ∧ Hid (∀ W, Below w.heap.size w W → Calls Tryd.prog 33 #[.slice a L.length cap, .int .i64 (i + 4), .int .i64 5] W fun e w' => e = .returned (.int .i64 x) ∧ w' = W) := ⟨_, rfl, num_range _ _ _ (by omega), Lib.hid (fun W hb => (from_any a cap L _ _ W (h.below hb) (by omega) (by omega) (by omega)).mono fun _ _ ⟨e, q⟩ => ⟨e, q.symm⟩)⟩
  obtain ⟨x5, hx5, ⟨r5, s5⟩, F5⟩ : ∃ x : Int, x = num L (i + 5) 25 ∧ (0 ≤ x ∧ x < 25) ∧ Hid (∀ W, Below w.heap.size w W → Calls Tryd.prog 33 #[.slice a L.length cap, .int .i64 (i + 5), .int .i64 25] W fun e w' => e = .returned (.int .i64 x) ∧ w' = W) := ⟨_, rfl, num_range _ _ _ (by omega), Lib.hid (fun W hb => (from_any a cap L _ _ W (h.below hb) (by omega) (by omega) (by omega)).mono fun _ _ ⟨e, q⟩ => ⟨e, q.symm⟩)⟩
  obtain ⟨x6, hx6, ⟨r6, s6⟩, F6⟩ : ∃ x : Int, x = num L (i + 6) 15 ∧ (0 ≤ x ∧ x < 15) ∧ Hid (∀ W, Below w.heap.size w W → Calls Tryd.prog 33 #[.slice a L.length cap, .int .i64 (i + 6), .int .i64 15] W fun e w' => e = .returned (.int .i64 x) ∧ w' = W) := ⟨_, rfl, num_range _ _ _ (by omega), Lib.hid (fun W hb => (from_any a cap L _ _ W (h.below hb) (by omega) (by omega) (by omega)).mono fun _ _ ⟨e, q⟩ => ⟨e, q.symm⟩)⟩
  obtain ⟨x7, hx7, ⟨r7, s7⟩, F7⟩ : ∃ x : Int, x = num L (i + 7) 2 ∧ (0 ≤ x ∧ x < 2) ∧ Hid (∀ W, Below w.heap.size w W → Calls Tryd.prog 33 #[.slice a L.length cap, .int .i64 (i + 7), .int .i64 2] W fun e w' => e = .returned (.int .i64 x) ∧ w' = W) := ⟨_, rfl, num_range _ _ _ (by omega), Lib.hid (fun W hb => (from_any a cap L _ _ W (h.below hb) (by omega) (by omega) (by omega)).mono fun _ _ ⟨e, q⟩ => ⟨e, q.symm⟩)⟩
  obtain ⟨x8, hx8, ⟨r8, s8⟩, F8⟩ : ∃ x : Int, x = num L (i + 8) 10 ∧ (0 ≤ x ∧ x < 10) ∧ Hid (∀ W, Below w.heap.size w W → Calls Tryd.prog 33 #[.slice a L.length cap, .int .i64 (i + 8), .int .i64 10] W fun e w' => e = .returned (.int .i64 x) ∧ w' = W) := ⟨_, rfl, num_range _ _ _ (by omega), Lib.hid (fun W hb => (from_any a cap L _ _ W (h.below hb) (by omega) (by omega) (by omega)).mono fun _ _ ⟨e, q⟩ => ⟨e, q.symm⟩)⟩
  obtain ⟨xb, hxb, ⟨rb, sb⟩, Fb⟩ : ∃ x : Int, x = num L (i + 8) 97 ∧ (0 ≤ x ∧ x < 97) ∧ Hid (∀ W, Below w.heap.size w W → Calls Tryd.prog 33 #[.slice a L.length cap, .int .i64 (i + 8), .int .i64 97] W fun e w' => e = .returned (.int .i64 x) ∧ w' = W) := ⟨_, rfl, num_range _ _ _ (by omega), Lib.hid (fun W hb => (from_any a cap L _ _ W (h.below hb) (by omega) (by omega) (by omega)).mono fun _ _ ⟨e, q⟩ => ⟨e, q.symm⟩)⟩
  obtain ⟨x9, hx9, ⟨r9, s9⟩, F9⟩ : ∃ x : Int, x = num L (i + 9) 7 ∧ (0 ≤ x ∧ x < 7) ∧ Hid (∀ W, Below w.heap.size w W → Calls Tryd.prog 33 #[.slice a L.length cap, .int .i64 (i + 9), .int .i64 7] W fun e w' => e = .returned (.int .i64 x) ∧ w' = W) := ⟨_, rfl, num_range _ _ _ (by omega), Lib.hid (fun W hb => (from_any a cap L _ _ W (h.below hb) (by omega) (by omega) (by omega)).mono fun _ _ ⟨e, q⟩ => ⟨e, q.symm⟩)⟩
  obtain ⟨xt, hxt, ⟨rt, st⟩, Ft⟩ : ∃ x : Int, x = num L (i + 10) 3 ∧ (0 ≤ x ∧ x < 3) ∧ Hid (∀ W, Below w.heap.size w W → Calls Tryd.prog 33 #[.slice a L.length cap, .int .i64 (i + 10), .int .i64 3] W fun e w' => e = .returned (.int .i64 x) ∧ w' = W) := ⟨_, rfl, num_range _ _ _ (by omega), Lib.hid (fun W hb => (from_any a cap L _ _ W (h.below hb) (by omega) (by omega) (by omega)).mono fun _ _ ⟨e, q⟩ => ⟨e, q.symm⟩)⟩
  obtain ⟨xe, hxe, ⟨re, se⟩, Fe⟩ : ∃ x : Int, x = num L (i + 11) 4 ∧ (0 ≤ x ∧ x < 4) ∧ Hid (∀ W, Below w.heap.size w W → Calls Tryd.prog 33 #[.slice a L.length cap, .int .i64 (i + 11), .int .i64 4] W fun e w' => e = .returned (.int .i64 x) ∧ w' = W) := ⟨_, rfl, num_range _ _ _ (by omega), Lib.hid (fun W hb => (from_any a cap L _ _ W (h.below hb) (by omega) (by omega) (by omega)).mono fun _ _ ⟨e, q⟩ => ⟨e, q.symm⟩)⟩
  have RES : Hid (genPh L i = ⟨true, 1 + x0, x1, 1 + x0 + x5, 1 + x0 + x5 + x6, 1 + x2, 10 + x3, x4, if x7 = 1 then 1 + x8 else 0, if x7 = 1 then 1 + xb / 10 else 0, recall x9 (if x7 = 1 then 1 + x8 else 0), decide (xt > 0), decide (xe = 1)⟩) := Lib.hid (by subst hx0 hx1 hx2 hx3 hx4 hx5 hx6 hx7 hx8 hxb hx9 hxt hxe; rfl)
  generalize genPh L i = R at RES ⊢
  clear hx0 hx1 hx2 hx3 hx4 hx5 hx6 hx7 hx8 hxb hx9 hxt hxe h
  have hz := (zero_of_info infoPz).1
  have HB : Hid (Below w.heap.size w (w.alloc (.cells zPh.cells.toArray 23))) := Lib.hid ((Below.refl _ _).alloc (Nat.le_refl _) _)
  have hg := heap_alloc_new w (.cells zPh.cells.toArray 23)
  have hs : (w.alloc (.cells zPh.cells.toArray 23)).heap.size = w.heap.size + 1 := by simp
  have HG := Lib.hid hg
  have HS := Lib.hid hs
  clear hg hs
  simp only [zPh, Ph.cells] at hz HB HG HS
  go_enter Tryd.func31, Tryd.ntmps31
  go_upto_region 1 with fail
  generalize (World.alloc w _) = u at HB HG HS ⊢
  go_wp2_with fail
  refine (F0.out _ HB.out).mono ?_
  rintro e w' ⟨rfl, hq⟩
  subst w'
  go_wp2_with fail
  refine (F1.out _ HB.out).mono ?_
  rintro e w' ⟨rfl, hq⟩
  subst w'
  go_wp2_with fail
  refine (F2.out _ HB.out).mono ?_
  rintro e w' ⟨rfl, hq⟩
  subst w'
  go_wp2_with fail
  refine (F3.out _ HB.out).mono ?_
  rintro e w' ⟨rfl, hq⟩
  subst w'
  go_wp2_with fail
  refine (F4.out _ HB.out).mono ?_
  rintro e w' ⟨rfl, hq⟩
  subst w'
  go_upto_region 2 with (refine Row.wpList_store_new rfl 23 _ _ rfl u _ #[.bool true, I (1 + x0), I x1, I 0, I 0, I (1 + x2), I (10 + x3), I x4, I 0, I 0, I 0, .bool false, .bool false] rfl rfl rfl infoP rfl (by simp [Value.oneCell']) ?_)
  (try dsimp only [Act.put])
  have hb := HB.out.alloc HB.out.size (.cells #[.bool true, I (1 + x0), I x1, I 0, I 0, I (1 + x2), I (10 + x3), I x4, I 0, I 0, I 0, .bool false, .bool false] 23)
  have g5 := heap_alloc_new u (.cells #[.bool true, I (1 + x0), I x1, I 0, I 0, I (1 + x2), I (10 + x3), I x4, I 0, I 0, I 0, .bool false, .bool false] 23)
  have g4 := (Below.heap_alloc u (.cells #[.bool true, I (1 + x0), I x1, I 0, I 0, I (1 + x2), I (10 + x3), I x4, I 0, I 0, I 0, .bool false, .bool false] 23) w.heap.size (by have := HS.out; omega)).trans HG.out
  have b5lt : w.heap.size < u.heap.size := by have := HS.out; omega
  clear HB HG HS
  generalize World.alloc u _ = u0 at g4 g5 hb ⊢
  generalize u.heap.size = b5 at g5 b5lt ⊢
  have G4 := Lib.hid g4
  have G5 := Lib.hid g5
  have HB := Lib.hid hb
  clear g4 g5 hb
  have e0 : IntKind.i64.wrap (i + 5) = i + 5 := by rw [IntKind.wrap_i64]; omega
  have e1 : IntKind.i64.wrap (1 + x0 + x5) = 1 + x0 + x5 := by rw [IntKind.wrap_i64]; omega
  have g4 : u0.drew.heap[w.heap.size]? = some (.cells #[.bool false, .int .i64 0, .int .i64 0, .int .i64 0, .int .i64 0, .int .i64 0, .int .i64 0, .int .i64 0, .int .i64 0, .int .i64 0, .int .i64 0, .bool false, .bool false] 23 (0, 0)) := G4.out
  have g5 : u0.drew.heap[b5]? = some (.cells #[.bool true, I (1 + x0), I x1, I 0, I 0, I (1 + x2), I (10 + x3), I x4, I 0, I 0, I 0, .bool false, .bool false] 23 (0, 0)) := G5.out
  have hb : Below w.heap.size w u0.drew := HB.out.drew
  clear G4 G5 HB
  refine QB.region_tail 8 (by kernel_rfl) (by kernel_rfl) ?_
  generalize World.drew u0 = u1 at g4 g5 hb ⊢
  have G4 := Lib.hid g4
  have G5 := Lib.hid g5
  have HB := Lib.hid hb
  clear g4 g5 hb
  have c1 : u1.cell? ⟨b5, 1, none⟩ = some (I (1 + x0)) := by rw [cell_of_row _ _ _ _ _ _ G5.out]; rfl
  have c3 : u1.cell? ⟨b5, 3, none⟩ = some (I 0) := by rw [cell_of_row _ _ _ _ _ _ G5.out]; rfl
  have f3 : u1.frozen? ⟨b5, 3, none⟩ = false := frozen_of_row _ _ _ _ _ G5.out
  simp only [List.take_succ_cons, List.take_zero, List.drop_succ_cons, List.drop_zero]
  repeat still_step
  still_call (F5.out _ HB.out)
  repeat still_step
  refine wpStill_nil ?_
  go_upto_region 3 with fail
  clear e0 e1
  have g5 := heap_setCell_same u1 b5 3 _ _ (I (1 + x0 + x5)) G5.out
  simp only [List.setIfInBounds_toArray, List.set_cons_succ, List.set_cons_zero] at g5
  have g4 := (Below.heap_setCell u1 ⟨b5, 3, none⟩ (I (1 + x0 + x5)) w.heap.size (by simp; omega)).trans G4.out
  have hb := Owned.below_write HB.out (g := b5) (i := 3) (by omega) (I (1 + x0 + x5))
  clear c1 c3 f3 G4 G5 HB
  generalize World.setCell u1 ⟨b5, 3, none⟩ (I (1 + x0 + x5)) = u2 at g4 g5 hb ⊢
  have G4 := Lib.hid g4
  have G5 := Lib.hid g5
  have HB := Lib.hid hb
  clear g4 g5 hb
  have e0 : IntKind.i64.wrap (i + 6) = i + 6 := by rw [IntKind.wrap_i64]; omega
  have e1 : IntKind.i64.wrap (1 + x0 + x5 + x6) = 1 + x0 + x5 + x6 := by rw [IntKind.wrap_i64]; omega
  have g4 : u2.drew.heap[w.heap.size]? = some (.cells #[.bool false, .int .i64 0, .int .i64 0, .int .i64 0, .int .i64 0, .int .i64 0, .int .i64 0, .int .i64 0, .int .i64 0, .int .i64 0, .int .i64 0, .bool false, .bool false] 23 (0, 0)) := G4.out
  have g5 : u2.drew.heap[b5]? = some (.cells #[.bool true, I (1 + x0), I x1, I (1 + x0 + x5), I 0, I (1 + x2), I (10 + x3), I x4, I 0, I 0, I 0, .bool false, .bool false] 23 (0, 0)) := G5.out
  have hb : Below w.heap.size w u2.drew := HB.out.drew
  clear G4 G5 HB
  refine QB.region_tail 8 (by kernel_rfl) (by kernel_rfl) ?_
  generalize World.drew u2 = u3 at g4 g5 hb ⊢
  have G4 := Lib.hid g4
  have G5 := Lib.hid g5
  have HB := Lib.hid hb
  clear g4 g5 hb
  have c3 : u3.cell? ⟨b5, 3, none⟩ = some (I (1 + x0 + x5)) := by rw [cell_of_row _ _ _ _ _ _ G5.out]; rfl
  have c4 : u3.cell? ⟨b5, 4, none⟩ = some (I 0) := by rw [cell_of_row _ _ _ _ _ _ G5.out]; rfl
  have f4 : u3.frozen? ⟨b5, 4, none⟩ = false := frozen_of_row _ _ _ _ _ G5.out
  simp only [List.take_succ_cons, List.take_zero, List.drop_succ_cons, List.drop_zero]
  repeat still_step
  still_call (F6.out _ HB.out)
  repeat still_step
  refine wpStill_nil ?_
  go_upto_region 4 with fail
  clear e0 e1
  have g5 := heap_setCell_same u3 b5 4 _ _ (I (1 + x0 + x5 + x6)) G5.out
  simp only [List.setIfInBounds_toArray, List.set_cons_succ, List.set_cons_zero] at g5
  have g4 := (Below.heap_setCell u3 ⟨b5, 4, none⟩ (I (1 + x0 + x5 + x6)) w.heap.size (by simp; omega)).trans G4.out
  have hb := Owned.below_write HB.out (g := b5) (i := 4) (by omega) (I (1 + x0 + x5 + x6))
  clear c3 c4 f4 G4 G5 HB
  generalize World.setCell u3 ⟨b5, 4, none⟩ (I (1 + x0 + x5 + x6)) = u4 at g4 g5 hb ⊢
  have G4 := Lib.hid g4
  have G5 := Lib.hid g5
  have HB := Lib.hid hb
  clear g4 g5 hb
  go_wp2_with fail
  refine (F7.out _ HB.out).mono ?_
  rintro e w' ⟨rfl, hq⟩
  subst w'
  by_cases h7 : x7 = 1
  · have H7 := Lib.hid h7
    have e7 : (x7 == 1) = true := by simpa using h7
    clear h7
    go_upto_region 5 with fail
    have c8 : u4.cell? ⟨b5, 8, none⟩ = some (I 0) := by rw [cell_of_row _ _ _ _ _ _ G5.out]; rfl
    have f8 : u4.frozen? ⟨b5, 8, none⟩ = false := frozen_of_row _ _ _ _ _ G5.out
    go_wp2_with fail
    refine (F8.out _ HB.out).mono ?_
    rintro e w' ⟨rfl, hq⟩
    subst w'
    go_upto_region 6 with fail
    have g5 := heap_setCell_same u4 b5 8 _ _ (I (1 + x8)) G5.out
    simp only [List.setIfInBounds_toArray, List.set_cons_succ, List.set_cons_zero] at g5
    have g4 := (Below.heap_setCell u4 ⟨b5, 8, none⟩ (I (1 + x8)) w.heap.size (by simp; omega)).trans G4.out
    have hb := Owned.below_write HB.out (g := b5) (i := 8) (by omega) (I (1 + x8))
    clear c8 f8 G4 G5 HB
    generalize World.setCell u4 ⟨b5, 8, none⟩ (I (1 + x8)) = u5 at g4 g5 hb ⊢
    have G4 := Lib.hid g4
    have G5 := Lib.hid g5
    have HB := Lib.hid hb
    clear g4 g5 hb
    have c9 : u5.cell? ⟨b5, 9, none⟩ = some (I 0) := by rw [cell_of_row _ _ _ _ _ _ G5.out]; rfl
    have f9 : u5.frozen? ⟨b5, 9, none⟩ = false := frozen_of_row _ _ _ _ _ G5.out
    go_wp2_with fail
    refine (Fb.out _ HB.out).mono ?_
    rintro e w' ⟨rfl, hq⟩
    subst w'
    go_upto_region 7 with fail
    have g5 := heap_setCell_same u5 b5 9 _ _ (I (1 + xb / 10)) G5.out
    simp only [List.setIfInBounds_toArray, List.set_cons_succ, List.set_cons_zero] at g5
    have g4 := (Below.heap_setCell u5 ⟨b5, 9, none⟩ (I (1 + xb / 10)) w.heap.size (by simp; omega)).trans G4.out
    have hb := Owned.below_write HB.out (g := b5) (i := 9) (by omega) (I (1 + xb / 10))
    clear c9 f9 G4 G5 HB
    generalize World.setCell u5 ⟨b5, 9, none⟩ (I (1 + xb / 10)) = u6 at g4 g5 hb ⊢
    have G4 := Lib.hid g4
    have G5 := Lib.hid g5
    have HB := Lib.hid hb
    clear g4 g5 hb
    have c10 : u6.cell? ⟨b5, 10, none⟩ = some (I 0) := by rw [cell_of_row _ _ _ _ _ _ G5.out]; rfl
    have f10 : u6.frozen? ⟨b5, 10, none⟩ = false := frozen_of_row _ _ _ _ _ G5.out
    go_wp2_with fail
    refine (F9.out _ HB.out).mono ?_
    rintro e w' ⟨rfl, hq⟩
    subst w'
    go_upto_region 8 with fail
    have g5 := heap_setCell_same u6 b5 10 _ _ (I x9) G5.out
    simp only [List.setIfInBounds_toArray, List.set_cons_succ, List.set_cons_zero] at g5
    have g4 := (Below.heap_setCell u6 ⟨b5, 10, none⟩ (I x9) w.heap.size (by simp; omega)).trans G4.out
    have hb := Owned.below_write HB.out (g := b5) (i := 10) (by omega) (I x9)
    clear c10 f10 G4 G5 HB
    generalize World.setCell u6 ⟨b5, 10, none⟩ (I x9) = u7 at g4 g5 hb ⊢
    have G4 := Lib.hid g4
    have G5 := Lib.hid g5
    have HB := Lib.hid hb
    clear g4 g5 hb
    have c8 : u7.cell? ⟨b5, 8, none⟩ = some (I (1 + x8)) := by rw [cell_of_row _ _ _ _ _ _ G5.out]; rfl
    have c10 : u7.cell? ⟨b5, 10, none⟩ = some (I x9) := by rw [cell_of_row _ _ _ _ _ _ G5.out]; rfl
    have f10 : u7.frozen? ⟨b5, 10, none⟩ = false := frozen_of_row _ _ _ _ _ G5.out
    by_cases h9 : x9 > 3
    · have RC : Hid (recall x9 (1 + x8) = 0) := Lib.hid (by unfold recall; rw [if_pos (by omega)])
      have H9 := Lib.hid h9
      have q9 : ¬ (x9 ≤ 3) := by omega
      go_upto_region 10 with fail
      have g5 := heap_setCell_same u7 b5 10 _ _ (I 0) G5.out
      simp only [List.setIfInBounds_toArray, List.set_cons_succ, List.set_cons_zero] at g5
      have g4 := (Below.heap_setCell u7 ⟨b5, 10, none⟩ (I 0) w.heap.size (by simp; omega)).trans G4.out
      have hb := Owned.below_write HB.out (g := b5) (i := 10) (by omega) (I 0)
      clear c8 c10 f10 G4 G5 HB
      generalize World.setCell u7 ⟨b5, 10, none⟩ (I 0) = u8 at g4 g5 hb ⊢
      have G4 := Lib.hid g4
      have G5 := Lib.hid g5
      have HB := Lib.hid hb
      clear g4 g5 hb
      have c11 : u8.cell? ⟨b5, 11, none⟩ = some (.bool false) := by rw [cell_of_row _ _ _ _ _ _ G5.out]; rfl
      have f11 : u8.frozen? ⟨b5, 11, none⟩ = false := frozen_of_row _ _ _ _ _ G5.out
      go_wp2_with fail
      refine (Ft.out _ HB.out).mono ?_
      rintro e w' ⟨rfl, hq⟩
      subst w'
      go_upto_region 11 with fail
      have g5 := heap_setCell_same u8 b5 11 _ _ (.bool (decide (xt > 0))) G5.out
      simp only [List.setIfInBounds_toArray, List.set_cons_succ, List.set_cons_zero] at g5
      have g4 := (Below.heap_setCell u8 ⟨b5, 11, none⟩ (.bool (decide (xt > 0))) w.heap.size (by simp; omega)).trans G4.out
      have hb := Owned.below_write HB.out (g := b5) (i := 11) (by omega) (.bool (decide (xt > 0)))
      clear c11 f11 G4 G5 HB
      generalize World.setCell u8 ⟨b5, 11, none⟩ (.bool (decide (xt > 0))) = u9 at g4 g5 hb ⊢
      have G4 := Lib.hid g4
      have G5 := Lib.hid g5
      have HB := Lib.hid hb
      clear g4 g5 hb
      have c12 : u9.cell? ⟨b5, 12, none⟩ = some (.bool false) := by rw [cell_of_row _ _ _ _ _ _ G5.out]; rfl
      have f12 : u9.frozen? ⟨b5, 12, none⟩ = false := frozen_of_row _ _ _ _ _ G5.out
      go_wp2_with fail
      refine (Fe.out _ HB.out).mono ?_
      rintro e w' ⟨rfl, hq⟩
      subst w'
      go_upto_region 12 with fail
      have g5 := heap_setCell_same u9 b5 12 _ _ (.bool (decide (xe = 1))) G5.out
      simp only [List.setIfInBounds_toArray, List.set_cons_succ, List.set_cons_zero] at g5
      have g4 := (Below.heap_setCell u9 ⟨b5, 12, none⟩ (.bool (decide (xe = 1))) w.heap.size (by simp; omega)).trans G4.out
      have hb := Owned.below_write HB.out (g := b5) (i := 12) (by omega) (.bool (decide (xe = 1)))
      clear c12 f12 G4 G5 HB
      generalize World.setCell u9 ⟨b5, 12, none⟩ (.bool (decide (xe = 1))) = u10 at g4 g5 hb ⊢
      have G4 := Lib.hid g4
      have G5 := Lib.hid g5
      have HB := Lib.hid hb
      clear g4 g5 hb
      have FIN : Hid (R.cells.toArray = #[.bool true, I (1 + x0), I x1, I (1 + x0 + x5), I (1 + x0 + x5 + x6), I (1 + x2), I (10 + x3), I x4, I (1 + x8), I (1 + xb / 10), I 0, .bool (decide (xt > 0)), .bool (decide (xe = 1))]) := Lib.hid (by rw [RES.out]; simp only [Ph.cells, if_pos H7.out, RC.out])
      have LV : Hid (Lies u10 ⟨b5, 0, none⟩ #[.bool true, I (1 + x0), I x1, I (1 + x0 + x5), I (1 + x0 + x5 + x6), I (1 + x2), I (10 + x3), I x4, I (1 + x8), I (1 + xb / 10), I 0, .bool (decide (xt > 0)), .bool (decide (xe = 1))].toList) := Lib.hid (Row.lies_of_block G5.out)
      have HG := Lib.hid (below_setRow HB.out (g := w.heap.size) (Nat.le_refl _) #[.bool true, I (1 + x0), I x1, I (1 + x0 + x5), I (1 + x0 + x5 + x6), I (1 + x2), I (10 + x3), I x4, I (1 + x8), I (1 + xb / 10), I 0, .bool (decide (xt > 0)), .bool (decide (xe = 1))])
      have HK := Lib.hid (setRow_heap u10 w.heap.size _ #[.bool true, I (1 + x0), I x1, I (1 + x0 + x5), I (1 + x0 + x5 + x6), I (1 + x2), I (10 + x3), I x4, I (1 + x8), I (1 + xb / 10), I 0, .bool (decide (xt > 0)), .bool (decide (xe = 1))] _ _ G4.out)
      go_wp2_with (first | (refine Row.wpList_load_g 23 _ rfl (by first | rfl | go_simp) ⟨b5, 0, none⟩ rfl #[.bool true, I (1 + x0), I x1, I (1 + x0 + x5), I (1 + x0 + x5 + x6), I (1 + x2), I (10 + x3), I x4, I (1 + x8), I (1 + xb / 10), I 0, .bool (decide (xt > 0)), .bool (decide (xe = 1))].toList _ LV.out Tryd.underlying23 rfl infoP ?_) | (refine wpList_store_row rfl 23 _ _ rfl w.heap.size #[.bool true, I (1 + x0), I x1, I (1 + x0 + x5), I (1 + x0 + x5 + x6), I (1 + x2), I (10 + x3), I x4, I (1 + x8), I (1 + xb / 10), I 0, .bool (decide (xt > 0)), .bool (decide (xe = 1))] rfl rfl 23 _ G4.out infoP rfl (by simp [Value.oneCell']) ?_))
      generalize u10.setRow w.heap.size #[.bool true, I (1 + x0), I x1, I (1 + x0 + x5), I (1 + x0 + x5 + x6), I (1 + x2), I (10 + x3), I x4, I (1 + x8), I (1 + xb / 10), I 0, .bool (decide (xt > 0)), .bool (decide (xe = 1))] = uz at HG HK ⊢
      go_wp2_with fail
      (try simp only [Exit.inBlock, Exit.then])
      refine bodyPost_ret (v := .agg #[.bool true, I (1 + x0), I x1, I (1 + x0 + x5), I (1 + x0 + x5 + x6), I (1 + x2), I (10 + x3), I x4, I (1 + x8), I (1 + xb / 10), I 0, .bool (decide (xt > 0)), .bool (decide (xe = 1))]) ?_ rfl ⟨by rw [FIN.out], HG.out⟩
      exact results_cell_row rfl _ _ w.heap.size 23 _ (0, 0) _ rfl HK.out Tryd.underlying23 rfl infoP
    · have RC : Hid (recall x9 (1 + x8) = x9) := Lib.hid (by unfold recall; rw [if_neg (by omega)])
      have H9 := Lib.hid h9
      have q9 : x9 ≤ 3 := by omega
      have q8 : (1 + x8 == 0) = false := by rw [beq_eq_false_iff_ne]; omega
      have Q8 := Lib.hid (show ¬ (1 + x8 = 0) from by omega)
      by_cases h3 : x9 = 3
      · have e3 : (x9 == 3) = true := by simpa using h3
        clear h3 h9
        go_upto_region 10 with fail
        clear c8 c10 f10 e3 q8
        have c11 : u7.cell? ⟨b5, 11, none⟩ = some (.bool false) := by rw [cell_of_row _ _ _ _ _ _ G5.out]; rfl
        have f11 : u7.frozen? ⟨b5, 11, none⟩ = false := frozen_of_row _ _ _ _ _ G5.out
        go_wp2_with fail
        refine (Ft.out _ HB.out).mono ?_
        rintro e w' ⟨rfl, hq⟩
        subst w'
        go_upto_region 11 with fail
        have g5 := heap_setCell_same u7 b5 11 _ _ (.bool (decide (xt > 0))) G5.out
        simp only [List.setIfInBounds_toArray, List.set_cons_succ, List.set_cons_zero] at g5
        have g4 := (Below.heap_setCell u7 ⟨b5, 11, none⟩ (.bool (decide (xt > 0))) w.heap.size (by simp; omega)).trans G4.out
        have hb := Owned.below_write HB.out (g := b5) (i := 11) (by omega) (.bool (decide (xt > 0)))
        clear c11 f11 G4 G5 HB
        generalize World.setCell u7 ⟨b5, 11, none⟩ (.bool (decide (xt > 0))) = u8 at g4 g5 hb ⊢
        have G4 := Lib.hid g4
        have G5 := Lib.hid g5
        have HB := Lib.hid hb
        clear g4 g5 hb
        have c12 : u8.cell? ⟨b5, 12, none⟩ = some (.bool false) := by rw [cell_of_row _ _ _ _ _ _ G5.out]; rfl
        have f12 : u8.frozen? ⟨b5, 12, none⟩ = false := frozen_of_row _ _ _ _ _ G5.out
        go_wp2_with fail
        refine (Fe.out _ HB.out).mono ?_
        rintro e w' ⟨rfl, hq⟩
        subst w'
        go_upto_region 12 with fail
        have g5 := heap_setCell_same u8 b5 12 _ _ (.bool (decide (xe = 1))) G5.out
        simp only [List.setIfInBounds_toArray, List.set_cons_succ, List.set_cons_zero] at g5
        have g4 := (Below.heap_setCell u8 ⟨b5, 12, none⟩ (.bool (decide (xe = 1))) w.heap.size (by simp; omega)).trans G4.out
        have hb := Owned.below_write HB.out (g := b5) (i := 12) (by omega) (.bool (decide (xe = 1)))
        clear c12 f12 G4 G5 HB
        generalize World.setCell u8 ⟨b5, 12, none⟩ (.bool (decide (xe = 1))) = u9 at g4 g5 hb ⊢
        have G4 := Lib.hid g4
        have G5 := Lib.hid g5
        have HB := Lib.hid hb
        clear g4 g5 hb
        have FIN : Hid (R.cells.toArray = #[.bool true, I (1 + x0), I x1, I (1 + x0 + x5), I (1 + x0 + x5 + x6), I (1 + x2), I (10 + x3), I x4, I (1 + x8), I (1 + xb / 10), I x9, .bool (decide (xt > 0)), .bool (decide (xe = 1))]) := Lib.hid (by rw [RES.out]; simp only [Ph.cells, if_pos H7.out, RC.out])
        have LV : Hid (Lies u9 ⟨b5, 0, none⟩ #[.bool true, I (1 + x0), I x1, I (1 + x0 + x5), I (1 + x0 + x5 + x6), I (1 + x2), I (10 + x3), I x4, I (1 + x8), I (1 + xb / 10), I x9, .bool (decide (xt > 0)), .bool (decide (xe = 1))].toList) := Lib.hid (Row.lies_of_block G5.out)
        have HG := Lib.hid (below_setRow HB.out (g := w.heap.size) (Nat.le_refl _) #[.bool true, I (1 + x0), I x1, I (1 + x0 + x5), I (1 + x0 + x5 + x6), I (1 + x2), I (10 + x3), I x4, I (1 + x8), I (1 + xb / 10), I x9, .bool (decide (xt > 0)), .bool (decide (xe = 1))])
        have HK := Lib.hid (setRow_heap u9 w.heap.size _ #[.bool true, I (1 + x0), I x1, I (1 + x0 + x5), I (1 + x0 + x5 + x6), I (1 + x2), I (10 + x3), I x4, I (1 + x8), I (1 + xb / 10), I x9, .bool (decide (xt > 0)), .bool (decide (xe = 1))] _ _ G4.out)
        go_wp2_with (first | (refine Row.wpList_load_g 23 _ rfl (by first | rfl | go_simp) ⟨b5, 0, none⟩ rfl #[.bool true, I (1 + x0), I x1, I (1 + x0 + x5), I (1 + x0 + x5 + x6), I (1 + x2), I (10 + x3), I x4, I (1 + x8), I (1 + xb / 10), I x9, .bool (decide (xt > 0)), .bool (decide (xe = 1))].toList _ LV.out Tryd.underlying23 rfl infoP ?_) | (refine wpList_store_row rfl 23 _ _ rfl w.heap.size #[.bool true, I (1 + x0), I x1, I (1 + x0 + x5), I (1 + x0 + x5 + x6), I (1 + x2), I (10 + x3), I x4, I (1 + x8), I (1 + xb / 10), I x9, .bool (decide (xt > 0)), .bool (decide (xe = 1))] rfl rfl 23 _ G4.out infoP rfl (by simp [Value.oneCell']) ?_))
        generalize u9.setRow w.heap.size #[.bool true, I (1 + x0), I x1, I (1 + x0 + x5), I (1 + x0 + x5 + x6), I (1 + x2), I (10 + x3), I x4, I (1 + x8), I (1 + xb / 10), I x9, .bool (decide (xt > 0)), .bool (decide (xe = 1))] = uz at HG HK ⊢
        go_wp2_with fail
        (try simp only [Exit.inBlock, Exit.then])
        refine bodyPost_ret (v := .agg #[.bool true, I (1 + x0), I x1, I (1 + x0 + x5), I (1 + x0 + x5 + x6), I (1 + x2), I (10 + x3), I x4, I (1 + x8), I (1 + xb / 10), I x9, .bool (decide (xt > 0)), .bool (decide (xe = 1))]) ?_ rfl ⟨by rw [FIN.out], HG.out⟩
        exact results_cell_row rfl _ _ w.heap.size 23 _ (0, 0) _ rfl HK.out Tryd.underlying23 rfl infoP
      · have e3 : (x9 == 3) = false := by simpa using h3
        clear h3 h9
        go_upto_region 10 with fail
        clear c8 c10 f10 e3 q8
        have c11 : u7.cell? ⟨b5, 11, none⟩ = some (.bool false) := by rw [cell_of_row _ _ _ _ _ _ G5.out]; rfl
        have f11 : u7.frozen? ⟨b5, 11, none⟩ = false := frozen_of_row _ _ _ _ _ G5.out
        go_wp2_with fail
        refine (Ft.out _ HB.out).mono ?_
        rintro e w' ⟨rfl, hq⟩
        subst w'
        go_upto_region 11 with fail
        have g5 := heap_setCell_same u7 b5 11 _ _ (.bool (decide (xt > 0))) G5.out
        simp only [List.setIfInBounds_toArray, List.set_cons_succ, List.set_cons_zero] at g5
        have g4 := (Below.heap_setCell u7 ⟨b5, 11, none⟩ (.bool (decide (xt > 0))) w.heap.size (by simp; omega)).trans G4.out
        have hb := Owned.below_write HB.out (g := b5) (i := 11) (by omega) (.bool (decide (xt > 0)))
        clear c11 f11 G4 G5 HB
        generalize World.setCell u7 ⟨b5, 11, none⟩ (.bool (decide (xt > 0))) = u8 at g4 g5 hb ⊢
        have G4 := Lib.hid g4
        have G5 := Lib.hid g5
        have HB := Lib.hid hb
        clear g4 g5 hb
        have c12 : u8.cell? ⟨b5, 12, none⟩ = some (.bool false) := by rw [cell_of_row _ _ _ _ _ _ G5.out]; rfl
        have f12 : u8.frozen? ⟨b5, 12, none⟩ = false := frozen_of_row _ _ _ _ _ G5.out
        go_wp2_with fail
        refine (Fe.out _ HB.out).mono ?_
        rintro e w' ⟨rfl, hq⟩
        subst w'
        go_upto_region 12 with fail
        have g5 := heap_setCell_same u8 b5 12 _ _ (.bool (decide (xe = 1))) G5.out
        simp only [List.setIfInBounds_toArray, List.set_cons_succ, List.set_cons_zero] at g5
        have g4 := (Below.heap_setCell u8 ⟨b5, 12, none⟩ (.bool (decide (xe = 1))) w.heap.size (by simp; omega)).trans G4.out
        have hb := Owned.below_write HB.out (g := b5) (i := 12) (by omega) (.bool (decide (xe = 1)))
        clear c12 f12 G4 G5 HB
        generalize World.setCell u8 ⟨b5, 12, none⟩ (.bool (decide (xe = 1))) = u9 at g4 g5 hb ⊢
        have G4 := Lib.hid g4
        have G5 := Lib.hid g5
        have HB := Lib.hid hb
        clear g4 g5 hb
        have FIN : Hid (R.cells.toArray = #[.bool true, I (1 + x0), I x1, I (1 + x0 + x5), I (1 + x0 + x5 + x6), I (1 + x2), I (10 + x3), I x4, I (1 + x8), I (1 + xb / 10), I x9, .bool (decide (xt > 0)), .bool (decide (xe = 1))]) := Lib.hid (by rw [RES.out]; simp only [Ph.cells, if_pos H7.out, RC.out])
        have LV : Hid (Lies u9 ⟨b5, 0, none⟩ #[.bool true, I (1 + x0), I x1, I (1 + x0 + x5), I (1 + x0 + x5 + x6), I (1 + x2), I (10 + x3), I x4, I (1 + x8), I (1 + xb / 10), I x9, .bool (decide (xt > 0)), .bool (decide (xe = 1))].toList) := Lib.hid (Row.lies_of_block G5.out)
        have HG := Lib.hid (below_setRow HB.out (g := w.heap.size) (Nat.le_refl _) #[.bool true, I (1 + x0), I x1, I (1 + x0 + x5), I (1 + x0 + x5 + x6), I (1 + x2), I (10 + x3), I x4, I (1 + x8), I (1 + xb / 10), I x9, .bool (decide (xt > 0)), .bool (decide (xe = 1))])
        have HK := Lib.hid (setRow_heap u9 w.heap.size _ #[.bool true, I (1 + x0), I x1, I (1 + x0 + x5), I (1 + x0 + x5 + x6), I (1 + x2), I (10 + x3), I x4, I (1 + x8), I (1 + xb / 10), I x9, .bool (decide (xt > 0)), .bool (decide (xe = 1))] _ _ G4.out)
        go_wp2_with (first | (refine Row.wpList_load_g 23 _ rfl (by first | rfl | go_simp) ⟨b5, 0, none⟩ rfl #[.bool true, I (1 + x0), I x1, I (1 + x0 + x5), I (1 + x0 + x5 + x6), I (1 + x2), I (10 + x3), I x4, I (1 + x8), I (1 + xb / 10), I x9, .bool (decide (xt > 0)), .bool (decide (xe = 1))].toList _ LV.out Tryd.underlying23 rfl infoP ?_) | (refine wpList_store_row rfl 23 _ _ rfl w.heap.size #[.bool true, I (1 + x0), I x1, I (1 + x0 + x5), I (1 + x0 + x5 + x6), I (1 + x2), I (10 + x3), I x4, I (1 + x8), I (1 + xb / 10), I x9, .bool (decide (xt > 0)), .bool (decide (xe = 1))] rfl rfl 23 _ G4.out infoP rfl (by simp [Value.oneCell']) ?_))
        generalize u9.setRow w.heap.size #[.bool true, I (1 + x0), I x1, I (1 + x0 + x5), I (1 + x0 + x5 + x6), I (1 + x2), I (10 + x3), I x4, I (1 + x8), I (1 + xb / 10), I x9, .bool (decide (xt > 0)), .bool (decide (xe = 1))] = uz at HG HK ⊢
        go_wp2_with fail
        (try simp only [Exit.inBlock, Exit.then])
        refine bodyPost_ret (v := .agg #[.bool true, I (1 + x0), I x1, I (1 + x0 + x5), I (1 + x0 + x5 + x6), I (1 + x2), I (10 + x3), I x4, I (1 + x8), I (1 + xb / 10), I x9, .bool (decide (xt > 0)), .bool (decide (xe = 1))]) ?_ rfl ⟨by rw [FIN.out], HG.out⟩
        exact results_cell_row rfl _ _ w.heap.size 23 _ (0, 0) _ rfl HK.out Tryd.underlying23 rfl infoP
  · have H7 := Lib.hid h7
    have e7 : (x7 == 1) = false := by simpa using h7
    clear h7
    go_upto_region 7 with fail
    have c10 : u4.cell? ⟨b5, 10, none⟩ = some (I 0) := by rw [cell_of_row _ _ _ _ _ _ G5.out]; rfl
    have f10 : u4.frozen? ⟨b5, 10, none⟩ = false := frozen_of_row _ _ _ _ _ G5.out
    go_wp2_with fail
    refine (F9.out _ HB.out).mono ?_
    rintro e w' ⟨rfl, hq⟩
    subst w'
    go_upto_region 8 with fail
    have g5 := heap_setCell_same u4 b5 10 _ _ (I x9) G5.out
    simp only [List.setIfInBounds_toArray, List.set_cons_succ, List.set_cons_zero] at g5
    have g4 := (Below.heap_setCell u4 ⟨b5, 10, none⟩ (I x9) w.heap.size (by simp; omega)).trans G4.out
    have hb := Owned.below_write HB.out (g := b5) (i := 10) (by omega) (I x9)
    clear c10 f10 G4 G5 HB
    generalize World.setCell u4 ⟨b5, 10, none⟩ (I x9) = u5 at g4 g5 hb ⊢
    have G4 := Lib.hid g4
    have G5 := Lib.hid g5
    have HB := Lib.hid hb
    clear g4 g5 hb
    have c8 : u5.cell? ⟨b5, 8, none⟩ = some (I 0) := by rw [cell_of_row _ _ _ _ _ _ G5.out]; rfl
    have c10 : u5.cell? ⟨b5, 10, none⟩ = some (I x9) := by rw [cell_of_row _ _ _ _ _ _ G5.out]; rfl
    have f10 : u5.frozen? ⟨b5, 10, none⟩ = false := frozen_of_row _ _ _ _ _ G5.out
    by_cases h9 : x9 > 3
    · have RC : Hid (recall x9 (0) = 0) := Lib.hid (by unfold recall; rw [if_pos (by omega)])
      have H9 := Lib.hid h9
      have q9 : ¬ (x9 ≤ 3) := by omega
      go_upto_region 10 with fail
      have g5 := heap_setCell_same u5 b5 10 _ _ (I 0) G5.out
      simp only [List.setIfInBounds_toArray, List.set_cons_succ, List.set_cons_zero] at g5
      have g4 := (Below.heap_setCell u5 ⟨b5, 10, none⟩ (I 0) w.heap.size (by simp; omega)).trans G4.out
      have hb := Owned.below_write HB.out (g := b5) (i := 10) (by omega) (I 0)
      clear c8 c10 f10 G4 G5 HB
      generalize World.setCell u5 ⟨b5, 10, none⟩ (I 0) = u6 at g4 g5 hb ⊢
      have G4 := Lib.hid g4
      have G5 := Lib.hid g5
      have HB := Lib.hid hb
      clear g4 g5 hb
      have c11 : u6.cell? ⟨b5, 11, none⟩ = some (.bool false) := by rw [cell_of_row _ _ _ _ _ _ G5.out]; rfl
      have f11 : u6.frozen? ⟨b5, 11, none⟩ = false := frozen_of_row _ _ _ _ _ G5.out
      go_wp2_with fail
      refine (Ft.out _ HB.out).mono ?_
      rintro e w' ⟨rfl, hq⟩
      subst w'
      go_upto_region 11 with fail
      have g5 := heap_setCell_same u6 b5 11 _ _ (.bool (decide (xt > 0))) G5.out
      simp only [List.setIfInBounds_toArray, List.set_cons_succ, List.set_cons_zero] at g5
      have g4 := (Below.heap_setCell u6 ⟨b5, 11, none⟩ (.bool (decide (xt > 0))) w.heap.size (by simp; omega)).trans G4.out
      have hb := Owned.below_write HB.out (g := b5) (i := 11) (by omega) (.bool (decide (xt > 0)))
      clear c11 f11 G4 G5 HB
      generalize World.setCell u6 ⟨b5, 11, none⟩ (.bool (decide (xt > 0))) = u7 at g4 g5 hb ⊢
      have G4 := Lib.hid g4
      have G5 := Lib.hid g5
      have HB := Lib.hid hb
      clear g4 g5 hb
      have c12 : u7.cell? ⟨b5, 12, none⟩ = some (.bool false) := by rw [cell_of_row _ _ _ _ _ _ G5.out]; rfl
      have f12 : u7.frozen? ⟨b5, 12, none⟩ = false := frozen_of_row _ _ _ _ _ G5.out
      go_wp2_with fail
      refine (Fe.out _ HB.out).mono ?_
      rintro e w' ⟨rfl, hq⟩
      subst w'
      go_upto_region 12 with fail
      have g5 := heap_setCell_same u7 b5 12 _ _ (.bool (decide (xe = 1))) G5.out
      simp only [List.setIfInBounds_toArray, List.set_cons_succ, List.set_cons_zero] at g5
      have g4 := (Below.heap_setCell u7 ⟨b5, 12, none⟩ (.bool (decide (xe = 1))) w.heap.size (by simp; omega)).trans G4.out
      have hb := Owned.below_write HB.out (g := b5) (i := 12) (by omega) (.bool (decide (xe = 1)))
      clear c12 f12 G4 G5 HB
      generalize World.setCell u7 ⟨b5, 12, none⟩ (.bool (decide (xe = 1))) = u8 at g4 g5 hb ⊢
      have G4 := Lib.hid g4
      have G5 := Lib.hid g5
      have HB := Lib.hid hb
      clear g4 g5 hb
      have FIN : Hid (R.cells.toArray = #[.bool true, I (1 + x0), I x1, I (1 + x0 + x5), I (1 + x0 + x5 + x6), I (1 + x2), I (10 + x3), I x4, I 0, I 0, I 0, .bool (decide (xt > 0)), .bool (decide (xe = 1))]) := Lib.hid (by rw [RES.out]; simp only [Ph.cells, if_neg H7.out, RC.out])
      have LV : Hid (Lies u8 ⟨b5, 0, none⟩ #[.bool true, I (1 + x0), I x1, I (1 + x0 + x5), I (1 + x0 + x5 + x6), I (1 + x2), I (10 + x3), I x4, I 0, I 0, I 0, .bool (decide (xt > 0)), .bool (decide (xe = 1))].toList) := Lib.hid (Row.lies_of_block G5.out)
      have HG := Lib.hid (below_setRow HB.out (g := w.heap.size) (Nat.le_refl _) #[.bool true, I (1 + x0), I x1, I (1 + x0 + x5), I (1 + x0 + x5 + x6), I (1 + x2), I (10 + x3), I x4, I 0, I 0, I 0, .bool (decide (xt > 0)), .bool (decide (xe = 1))])
      have HK := Lib.hid (setRow_heap u8 w.heap.size _ #[.bool true, I (1 + x0), I x1, I (1 + x0 + x5), I (1 + x0 + x5 + x6), I (1 + x2), I (10 + x3), I x4, I 0, I 0, I 0, .bool (decide (xt > 0)), .bool (decide (xe = 1))] _ _ G4.out)
      go_wp2_with (first | (refine Row.wpList_load_g 23 _ rfl (by first | rfl | go_simp) ⟨b5, 0, none⟩ rfl #[.bool true, I (1 + x0), I x1, I (1 + x0 + x5), I (1 + x0 + x5 + x6), I (1 + x2), I (10 + x3), I x4, I 0, I 0, I 0, .bool (decide (xt > 0)), .bool (decide (xe = 1))].toList _ LV.out Tryd.underlying23 rfl infoP ?_) | (refine wpList_store_row rfl 23 _ _ rfl w.heap.size #[.bool true, I (1 + x0), I x1, I (1 + x0 + x5), I (1 + x0 + x5 + x6), I (1 + x2), I (10 + x3), I x4, I 0, I 0, I 0, .bool (decide (xt > 0)), .bool (decide (xe = 1))] rfl rfl 23 _ G4.out infoP rfl (by simp [Value.oneCell']) ?_))
      generalize u8.setRow w.heap.size #[.bool true, I (1 + x0), I x1, I (1 + x0 + x5), I (1 + x0 + x5 + x6), I (1 + x2), I (10 + x3), I x4, I 0, I 0, I 0, .bool (decide (xt > 0)), .bool (decide (xe = 1))] = uz at HG HK ⊢
      go_wp2_with fail
      (try simp only [Exit.inBlock, Exit.then])
      refine bodyPost_ret (v := .agg #[.bool true, I (1 + x0), I x1, I (1 + x0 + x5), I (1 + x0 + x5 + x6), I (1 + x2), I (10 + x3), I x4, I 0, I 0, I 0, .bool (decide (xt > 0)), .bool (decide (xe = 1))]) ?_ rfl ⟨by rw [FIN.out], HG.out⟩
      exact results_cell_row rfl _ _ w.heap.size 23 _ (0, 0) _ rfl HK.out Tryd.underlying23 rfl infoP
    · have H9 := Lib.hid h9
      have q9 : x9 ≤ 3 := by omega
      by_cases h3 : x9 = 3
      · have RC : Hid (recall x9 (0) = 0) := Lib.hid (by unfold recall; rw [if_pos (by omega)])
        have H3 := Lib.hid h3
        have e3 : (x9 == 3) = true := by simpa using h3
        clear h3 h9
        go_upto_region 10 with fail
        have g5 := heap_setCell_same u5 b5 10 _ _ (I 0) G5.out
        simp only [List.setIfInBounds_toArray, List.set_cons_succ, List.set_cons_zero] at g5
        have g4 := (Below.heap_setCell u5 ⟨b5, 10, none⟩ (I 0) w.heap.size (by simp; omega)).trans G4.out
        have hb := Owned.below_write HB.out (g := b5) (i := 10) (by omega) (I 0)
        clear c8 c10 f10 G4 G5 HB
        generalize World.setCell u5 ⟨b5, 10, none⟩ (I 0) = u6 at g4 g5 hb ⊢
        have G4 := Lib.hid g4
        have G5 := Lib.hid g5
        have HB := Lib.hid hb
        clear g4 g5 hb
        clear e3
        have c11 : u6.cell? ⟨b5, 11, none⟩ = some (.bool false) := by rw [cell_of_row _ _ _ _ _ _ G5.out]; rfl
        have f11 : u6.frozen? ⟨b5, 11, none⟩ = false := frozen_of_row _ _ _ _ _ G5.out
        go_wp2_with fail
        refine (Ft.out _ HB.out).mono ?_
        rintro e w' ⟨rfl, hq⟩
        subst w'
        go_upto_region 11 with fail
        have g5 := heap_setCell_same u6 b5 11 _ _ (.bool (decide (xt > 0))) G5.out
        simp only [List.setIfInBounds_toArray, List.set_cons_succ, List.set_cons_zero] at g5
        have g4 := (Below.heap_setCell u6 ⟨b5, 11, none⟩ (.bool (decide (xt > 0))) w.heap.size (by simp; omega)).trans G4.out
        have hb := Owned.below_write HB.out (g := b5) (i := 11) (by omega) (.bool (decide (xt > 0)))
        clear c11 f11 G4 G5 HB
        generalize World.setCell u6 ⟨b5, 11, none⟩ (.bool (decide (xt > 0))) = u7 at g4 g5 hb ⊢
        have G4 := Lib.hid g4
        have G5 := Lib.hid g5
        have HB := Lib.hid hb
        clear g4 g5 hb
        have c12 : u7.cell? ⟨b5, 12, none⟩ = some (.bool false) := by rw [cell_of_row _ _ _ _ _ _ G5.out]; rfl
        have f12 : u7.frozen? ⟨b5, 12, none⟩ = false := frozen_of_row _ _ _ _ _ G5.out
        go_wp2_with fail
        refine (Fe.out _ HB.out).mono ?_
        rintro e w' ⟨rfl, hq⟩
        subst w'
        go_upto_region 12 with fail
        have g5 := heap_setCell_same u7 b5 12 _ _ (.bool (decide (xe = 1))) G5.out
        simp only [List.setIfInBounds_toArray, List.set_cons_succ, List.set_cons_zero] at g5
        have g4 := (Below.heap_setCell u7 ⟨b5, 12, none⟩ (.bool (decide (xe = 1))) w.heap.size (by simp; omega)).trans G4.out
        have hb := Owned.below_write HB.out (g := b5) (i := 12) (by omega) (.bool (decide (xe = 1)))
        clear c12 f12 G4 G5 HB
        generalize World.setCell u7 ⟨b5, 12, none⟩ (.bool (decide (xe = 1))) = u8 at g4 g5 hb ⊢
        have G4 := Lib.hid g4
        have G5 := Lib.hid g5
        have HB := Lib.hid hb
        clear g4 g5 hb
        have FIN : Hid (R.cells.toArray = #[.bool true, I (1 + x0), I x1, I (1 + x0 + x5), I (1 + x0 + x5 + x6), I (1 + x2), I (10 + x3), I x4, I 0, I 0, I 0, .bool (decide (xt > 0)), .bool (decide (xe = 1))]) := Lib.hid (by rw [RES.out]; simp only [Ph.cells, if_neg H7.out, RC.out])
        have LV : Hid (Lies u8 ⟨b5, 0, none⟩ #[.bool true, I (1 + x0), I x1, I (1 + x0 + x5), I (1 + x0 + x5 + x6), I (1 + x2), I (10 + x3), I x4, I 0, I 0, I 0, .bool (decide (xt > 0)), .bool (decide (xe = 1))].toList) := Lib.hid (Row.lies_of_block G5.out)
        have HG := Lib.hid (below_setRow HB.out (g := w.heap.size) (Nat.le_refl _) #[.bool true, I (1 + x0), I x1, I (1 + x0 + x5), I (1 + x0 + x5 + x6), I (1 + x2), I (10 + x3), I x4, I 0, I 0, I 0, .bool (decide (xt > 0)), .bool (decide (xe = 1))])
        have HK := Lib.hid (setRow_heap u8 w.heap.size _ #[.bool true, I (1 + x0), I x1, I (1 + x0 + x5), I (1 + x0 + x5 + x6), I (1 + x2), I (10 + x3), I x4, I 0, I 0, I 0, .bool (decide (xt > 0)), .bool (decide (xe = 1))] _ _ G4.out)
        go_wp2_with (first | (refine Row.wpList_load_g 23 _ rfl (by first | rfl | go_simp) ⟨b5, 0, none⟩ rfl #[.bool true, I (1 + x0), I x1, I (1 + x0 + x5), I (1 + x0 + x5 + x6), I (1 + x2), I (10 + x3), I x4, I 0, I 0, I 0, .bool (decide (xt > 0)), .bool (decide (xe = 1))].toList _ LV.out Tryd.underlying23 rfl infoP ?_) | (refine wpList_store_row rfl 23 _ _ rfl w.heap.size #[.bool true, I (1 + x0), I x1, I (1 + x0 + x5), I (1 + x0 + x5 + x6), I (1 + x2), I (10 + x3), I x4, I 0, I 0, I 0, .bool (decide (xt > 0)), .bool (decide (xe = 1))] rfl rfl 23 _ G4.out infoP rfl (by simp [Value.oneCell']) ?_))
        generalize u8.setRow w.heap.size #[.bool true, I (1 + x0), I x1, I (1 + x0 + x5), I (1 + x0 + x5 + x6), I (1 + x2), I (10 + x3), I x4, I 0, I 0, I 0, .bool (decide (xt > 0)), .bool (decide (xe = 1))] = uz at HG HK ⊢
        go_wp2_with fail
        (try simp only [Exit.inBlock, Exit.then])
        refine bodyPost_ret (v := .agg #[.bool true, I (1 + x0), I x1, I (1 + x0 + x5), I (1 + x0 + x5 + x6), I (1 + x2), I (10 + x3), I x4, I 0, I 0, I 0, .bool (decide (xt > 0)), .bool (decide (xe = 1))]) ?_ rfl ⟨by rw [FIN.out], HG.out⟩
        exact results_cell_row rfl _ _ w.heap.size 23 _ (0, 0) _ rfl HK.out Tryd.underlying23 rfl infoP
      · have RC : Hid (recall x9 (0) = x9) := Lib.hid (by unfold recall; rw [if_neg (by omega)])
        have H3 := Lib.hid h3
        have e3 : (x9 == 3) = false := by simpa using h3
        clear h3 h9
        go_upto_region 10 with fail
        clear c8 c10 f10 e3
        have c11 : u5.cell? ⟨b5, 11, none⟩ = some (.bool false) := by rw [cell_of_row _ _ _ _ _ _ G5.out]; rfl
        have f11 : u5.frozen? ⟨b5, 11, none⟩ = false := frozen_of_row _ _ _ _ _ G5.out
        go_wp2_with fail
        refine (Ft.out _ HB.out).mono ?_
        rintro e w' ⟨rfl, hq⟩
        subst w'
        go_upto_region 11 with fail
        have g5 := heap_setCell_same u5 b5 11 _ _ (.bool (decide (xt > 0))) G5.out
        simp only [List.setIfInBounds_toArray, List.set_cons_succ, List.set_cons_zero] at g5
        have g4 := (Below.heap_setCell u5 ⟨b5, 11, none⟩ (.bool (decide (xt > 0))) w.heap.size (by simp; omega)).trans G4.out
        have hb := Owned.below_write HB.out (g := b5) (i := 11) (by omega) (.bool (decide (xt > 0)))
        clear c11 f11 G4 G5 HB
        generalize World.setCell u5 ⟨b5, 11, none⟩ (.bool (decide (xt > 0))) = u6 at g4 g5 hb ⊢
        have G4 := Lib.hid g4
        have G5 := Lib.hid g5
        have HB := Lib.hid hb
        clear g4 g5 hb
        have c12 : u6.cell? ⟨b5, 12, none⟩ = some (.bool false) := by rw [cell_of_row _ _ _ _ _ _ G5.out]; rfl
        have f12 : u6.frozen? ⟨b5, 12, none⟩ = false := frozen_of_row _ _ _ _ _ G5.out
        go_wp2_with fail
        refine (Fe.out _ HB.out).mono ?_
        rintro e w' ⟨rfl, hq⟩
        subst w'
        go_upto_region 12 with fail
        have g5 := heap_setCell_same u6 b5 12 _ _ (.bool (decide (xe = 1))) G5.out
        simp only [List.setIfInBounds_toArray, List.set_cons_succ, List.set_cons_zero] at g5
        have g4 := (Below.heap_setCell u6 ⟨b5, 12, none⟩ (.bool (decide (xe = 1))) w.heap.size (by simp; omega)).trans G4.out
        have hb := Owned.below_write HB.out (g := b5) (i := 12) (by omega) (.bool (decide (xe = 1)))
        clear c12 f12 G4 G5 HB
        generalize World.setCell u6 ⟨b5, 12, none⟩ (.bool (decide (xe = 1))) = u7 at g4 g5 hb ⊢
        have G4 := Lib.hid g4
        have G5 := Lib.hid g5
        have HB := Lib.hid hb
        clear g4 g5 hb
        have FIN : Hid (R.cells.toArray = #[.bool true, I (1 + x0), I x1, I (1 + x0 + x5), I (1 + x0 + x5 + x6), I (1 + x2), I (10 + x3), I x4, I 0, I 0, I x9, .bool (decide (xt > 0)), .bool (decide (xe = 1))]) := Lib.hid (by rw [RES.out]; simp only [Ph.cells, if_neg H7.out, RC.out])
        have LV : Hid (Lies u7 ⟨b5, 0, none⟩ #[.bool true, I (1 + x0), I x1, I (1 + x0 + x5), I (1 + x0 + x5 + x6), I (1 + x2), I (10 + x3), I x4, I 0, I 0, I x9, .bool (decide (xt > 0)), .bool (decide (xe = 1))].toList) := Lib.hid (Row.lies_of_block G5.out)
        have HG := Lib.hid (below_setRow HB.out (g := w.heap.size) (Nat.le_refl _) #[.bool true, I (1 + x0), I x1, I (1 + x0 + x5), I (1 + x0 + x5 + x6), I (1 + x2), I (10 + x3), I x4, I 0, I 0, I x9, .bool (decide (xt > 0)), .bool (decide (xe = 1))])
        have HK := Lib.hid (setRow_heap u7 w.heap.size _ #[.bool true, I (1 + x0), I x1, I (1 + x0 + x5), I (1 + x0 + x5 + x6), I (1 + x2), I (10 + x3), I x4, I 0, I 0, I x9, .bool (decide (xt > 0)), .bool (decide (xe = 1))] _ _ G4.out)
        go_wp2_with (first | (refine Row.wpList_load_g 23 _ rfl (by first | rfl | go_simp) ⟨b5, 0, none⟩ rfl #[.bool true, I (1 + x0), I x1, I (1 + x0 + x5), I (1 + x0 + x5 + x6), I (1 + x2), I (10 + x3), I x4, I 0, I 0, I x9, .bool (decide (xt > 0)), .bool (decide (xe = 1))].toList _ LV.out Tryd.underlying23 rfl infoP ?_) | (refine wpList_store_row rfl 23 _ _ rfl w.heap.size #[.bool true, I (1 + x0), I x1, I (1 + x0 + x5), I (1 + x0 + x5 + x6), I (1 + x2), I (10 + x3), I x4, I 0, I 0, I x9, .bool (decide (xt > 0)), .bool (decide (xe = 1))] rfl rfl 23 _ G4.out infoP rfl (by simp [Value.oneCell']) ?_))
        generalize u7.setRow w.heap.size #[.bool true, I (1 + x0), I x1, I (1 + x0 + x5), I (1 + x0 + x5 + x6), I (1 + x2), I (10 + x3), I x4, I 0, I 0, I x9, .bool (decide (xt > 0)), .bool (decide (xe = 1))] = uz at HG HK ⊢
        go_wp2_with fail
        (try simp only [Exit.inBlock, Exit.then])
        refine bodyPost_ret (v := .agg #[.bool true, I (1 + x0), I x1, I (1 + x0 + x5), I (1 + x0 + x5 + x6), I (1 + x2), I (10 + x3), I x4, I 0, I 0, I x9, .bool (decide (xt > 0)), .bool (decide (xe = 1))]) ?_ rfl ⟨by rw [FIN.out], HG.out⟩
        exact results_cell_row rfl _ _ w.heap.size 23 _ (0, 0) _ rfl HK.out Tryd.underlying23 rfl infoP
end GenP
end Go.Proofs.YtkccepdifgldeaaDoor
