/- 19 texts in one file, in build order. -/
import Derived.Test.YtjgpljnbeolapaaRows
import Derived.Test.YtjgpljnbeolapaaPart01
import Derived.Deep.Cut
import Derived.StillTailTactics
import Derived.Laws.BitsLemmas
import Derived.OwnWalk
import Derived.WalkKit
import Derived.ProofKit
import Derived.IntWalk
import Derived.Lib.Hide
import Derived.LoopTactic
import Derived.Below
import Derived.BigQuiet
import Derived.Deep.QuietTactic
import Derived.Laws.CopyOwn
set_option linter.unusedVariables false
set_option linter.unusedSimpArgs false
set_option linter.unusedSectionVars false
set_option maxHeartbeats 8000000
set_option maxRecDepth 100000
namespace Go.Proofs.Ytjgpljnbeolapaa
namespace Ped
open Go.ChangeShapes Go.WideShapes Go.ChangeAt Go.RowKit
open Tab Flat TabArg QL
open May (infoP)
structure Ft where
  st : Int
  tm : Int
deriving DecidableEq
def Ft.cells (s : Ft) : List Value := [I s.st, I s.tm]
section
variable {H : Type} {enc : TypeId × Value → H} {P : Program} {w : World} {base : Nat} {spare : Nat → Bool} {held : Bool}
end
theorem infoFt : (Try.prog.info? 41).map (·.size) = some 2 := by kernel_rfl
theorem ret_bool {a b : Bool} (h : a = b) : Ending.returned (.bool a) = .returned (.bool b) := by rw [h]
/-- One tick of a signal: k ticks of walk, l of blinks. -/
def ft (k l s t : Int) (b : Bool) : Ft :=
  if s = 1 then (if k ≤ t then ⟨2, 1⟩ else ⟨1, Cnt.more t⟩)
  else if s = 2 then (if l ≤ t then ⟨0, 0⟩ else ⟨2, Cnt.more t⟩)
  else if b = true ∧ 0 < k then ⟨1, 1⟩ else ⟨0, 0⟩
def cu (s t : Int) : Ft := if s = 1 then ⟨2, 1⟩ else ⟨s, t⟩
theorem foot_is {p : Ph} {s t a b : Int} {g : Bool} (hs : ft p.walk p.blinks s t g = ⟨a, b⟩) (w : World) : Calls Try.prog 71 #[.agg p.cells.toArray, .agg #[I s, I t], .bool g] w fun e w' => e = .returned (.agg #[I a, I b]) ∧ Below w.heap.size w w' := by
  have h0 := (((Blk.Bks.nil w).alloc p.cells.toArray 24).alloc #[I s, I t] 41).alloc #[I 0, I 0] 41
  rw [show ((w.alloc (.cells p.cells.toArray 24)).alloc (.cells #[I s, I t] 41)).heap.size = w.heap.size + 1 + 1 by simp, show (w.alloc (.cells p.cells.toArray 24)).heap.size = w.heap.size + 1 by simp] at h0
  obtain ⟨k, hk⟩ : ∃ k, p.walk = k := ⟨_, rfl⟩
  obtain ⟨l, hl⟩ : ∃ l, p.blinks = l := ⟨_, rfl⟩
  rw [hk, hl] at hs
  by_cases h1 : s = 1
  · subst h1
    by_cases h2 : k ≤ t
    · unfold ft at hs
      rw [if_pos rfl, if_pos h2] at hs
      injection hs with e1 e2
      subst e1
      subst e2
      go_enter Try.func71, Try.ntmps71
      go_upto_region 1 with fail
      generalize World.alloc (World.alloc (World.alloc w _) _) _ = v at h0 ⊢
      generalize hgz : w.heap.size + 1 + 1 = gz at h0 ⊢
      generalize hgs : w.heap.size + 1 = gs at h0 ⊢
      generalize w.heap.size = gp at h0 ⊢
      clear hgz hgs
      have H0 := Lib.hid h0
      clear h0
      have k8 : v.cell? ⟨gp, 8, none⟩ = some (I p.walk) := H0.out.cell 2 8 rfl rfl
      have k9 : v.cell? ⟨gp, 9, none⟩ = some (I p.blinks) := H0.out.cell 2 9 rfl rfl
      rw [hk] at k8
      rw [hl] at k9
      have c0 : v.cell? ⟨gs, 0, none⟩ = some (I 1) := H0.out.cell 1 0 rfl rfl
      have c1 : v.cell? ⟨gs, 1, none⟩ = some (I t) := H0.out.cell 1 1 rfl rfl
      go_wp2_with (first | (refine wpList_store_row rfl 41 _ _ rfl gz #[I 2, I 1] rfl rfl 41 _ (H0.out.at 0 rfl) infoFt rfl (by simp [Value.oneCell']) ?_))
      have hput := H0.out.put 0 rfl #[I 2, I 1]
      simp only [List.set_cons_succ, List.set_cons_zero] at hput
      generalize World.setRow v gz _ = vz at hput ⊢
      have HG := Lib.hid hput
      clear hput
      go_wp2_with fail
      (try simp only [Exit.inBlock, Exit.then])
      refine bodyPost_ret (v := .agg #[I 2, I 1]) ?_ rfl ⟨rfl, HG.out.bel⟩
      exact results_cell_row rfl _ _ gz 41 _ (0, 0) _ rfl (HG.out.at 0 rfl) Try.underlying41 rfl infoFt
    · unfold ft at hs
      rw [if_pos rfl, if_neg h2] at hs
      injection hs with e1 e2
      subst e1
      have OM : Hid (∀ W, Calls Try.prog 70 #[.int .i64 t] W fun e w' => e = .returned (.int .i64 b) ∧ W = w') := Lib.hid (fun W => by rw [← e2]; exact Cnt.rmore_any t W)
      clear e2
      go_enter Try.func71, Try.ntmps71
      go_upto_region 1 with fail
      generalize World.alloc (World.alloc (World.alloc w _) _) _ = v at h0 ⊢
      generalize hgz : w.heap.size + 1 + 1 = gz at h0 ⊢
      generalize hgs : w.heap.size + 1 = gs at h0 ⊢
      generalize w.heap.size = gp at h0 ⊢
      clear hgz hgs
      have H0 := Lib.hid h0
      clear h0
      have k8 : v.cell? ⟨gp, 8, none⟩ = some (I p.walk) := H0.out.cell 2 8 rfl rfl
      have k9 : v.cell? ⟨gp, 9, none⟩ = some (I p.blinks) := H0.out.cell 2 9 rfl rfl
      rw [hk] at k8
      rw [hl] at k9
      have c0 : v.cell? ⟨gs, 0, none⟩ = some (I 1) := H0.out.cell 1 0 rfl rfl
      have c1 : v.cell? ⟨gs, 1, none⟩ = some (I t) := H0.out.cell 1 1 rfl rfl
      go_wp2_with (first | (go_at_call 70; refine (OM.out _).mono ?_; rintro e w' ⟨rfl, rfl⟩) | (refine wpList_store_row rfl 41 _ _ rfl gz #[I 1, I b] rfl rfl 41 _ (H0.out.at 0 rfl) infoFt rfl (by simp [Value.oneCell']) ?_))
      have hput := H0.out.put 0 rfl #[I 1, I b]
      simp only [List.set_cons_succ, List.set_cons_zero] at hput
      generalize World.setRow v gz _ = vz at hput ⊢
      have HG := Lib.hid hput
      clear hput
      go_wp2_with fail
      (try simp only [Exit.inBlock, Exit.then])
      refine bodyPost_ret (v := .agg #[I 1, I b]) ?_ rfl ⟨rfl, HG.out.bel⟩
      exact results_cell_row rfl _ _ gz 41 _ (0, 0) _ rfl (HG.out.at 0 rfl) Try.underlying41 rfl infoFt
  · by_cases h3 : s = 2
    · subst h3
      by_cases h2 : l ≤ t
      · unfold ft at hs
        rw [if_neg h1, if_pos rfl, if_pos h2] at hs
        injection hs with e1 e2
        subst e1
        subst e2
        go_enter Try.func71, Try.ntmps71
        go_upto_region 1 with fail
        generalize World.alloc (World.alloc (World.alloc w _) _) _ = v at h0 ⊢
        generalize hgz : w.heap.size + 1 + 1 = gz at h0 ⊢
        generalize hgs : w.heap.size + 1 = gs at h0 ⊢
        generalize w.heap.size = gp at h0 ⊢
        clear hgz hgs
        have H0 := Lib.hid h0
        clear h0
        have k8 : v.cell? ⟨gp, 8, none⟩ = some (I p.walk) := H0.out.cell 2 8 rfl rfl
        have k9 : v.cell? ⟨gp, 9, none⟩ = some (I p.blinks) := H0.out.cell 2 9 rfl rfl
        rw [hk] at k8
        rw [hl] at k9
        have c0 : v.cell? ⟨gs, 0, none⟩ = some (I 2) := H0.out.cell 1 0 rfl rfl
        have c1 : v.cell? ⟨gs, 1, none⟩ = some (I t) := H0.out.cell 1 1 rfl rfl
        go_wp2_with (first | (refine wpList_store_row rfl 41 _ _ rfl gz #[I 0, I 0] rfl rfl 41 _ (H0.out.at 0 rfl) infoFt rfl (by simp [Value.oneCell']) ?_))
        have hput := H0.out.put 0 rfl #[I 0, I 0]
        simp only [List.set_cons_succ, List.set_cons_zero] at hput
        generalize World.setRow v gz _ = vz at hput ⊢
        have HG := Lib.hid hput
        clear hput
        go_wp2_with fail
        (try simp only [Exit.inBlock, Exit.then])
        refine bodyPost_ret (v := .agg #[I 0, I 0]) ?_ rfl ⟨rfl, HG.out.bel⟩
        exact results_cell_row rfl _ _ gz 41 _ (0, 0) _ rfl (HG.out.at 0 rfl) Try.underlying41 rfl infoFt
      · unfold ft at hs
        rw [if_neg h1, if_pos rfl, if_neg h2] at hs
        injection hs with e1 e2
        subst e1
        have OM : Hid (∀ W, Calls Try.prog 70 #[.int .i64 t] W fun e w' => e = .returned (.int .i64 b) ∧ W = w') := Lib.hid (fun W => by rw [← e2]; exact Cnt.rmore_any t W)
        clear e2
        go_enter Try.func71, Try.ntmps71
        go_upto_region 1 with fail
        generalize World.alloc (World.alloc (World.alloc w _) _) _ = v at h0 ⊢
        generalize hgz : w.heap.size + 1 + 1 = gz at h0 ⊢
        generalize hgs : w.heap.size + 1 = gs at h0 ⊢
        generalize w.heap.size = gp at h0 ⊢
        clear hgz hgs
        have H0 := Lib.hid h0
        clear h0
        have k8 : v.cell? ⟨gp, 8, none⟩ = some (I p.walk) := H0.out.cell 2 8 rfl rfl
        have k9 : v.cell? ⟨gp, 9, none⟩ = some (I p.blinks) := H0.out.cell 2 9 rfl rfl
        rw [hk] at k8
        rw [hl] at k9
        have c0 : v.cell? ⟨gs, 0, none⟩ = some (I 2) := H0.out.cell 1 0 rfl rfl
        have c1 : v.cell? ⟨gs, 1, none⟩ = some (I t) := H0.out.cell 1 1 rfl rfl
        go_wp2_with (first | (go_at_call 70; refine (OM.out _).mono ?_; rintro e w' ⟨rfl, rfl⟩) | (refine wpList_store_row rfl 41 _ _ rfl gz #[I 2, I b] rfl rfl 41 _ (H0.out.at 0 rfl) infoFt rfl (by simp [Value.oneCell']) ?_))
        have hput := H0.out.put 0 rfl #[I 2, I b]
        simp only [List.set_cons_succ, List.set_cons_zero] at hput
        generalize World.setRow v gz _ = vz at hput ⊢
        have HG := Lib.hid hput
        clear hput
        go_wp2_with fail
        (try simp only [Exit.inBlock, Exit.then])
        refine bodyPost_ret (v := .agg #[I 2, I b]) ?_ rfl ⟨rfl, HG.out.bel⟩
        exact results_cell_row rfl _ _ gz 41 _ (0, 0) _ rfl (HG.out.at 0 rfl) Try.underlying41 rfl infoFt
    · cases g
      · unfold ft at hs
        rw [if_neg h1, if_neg h3, if_neg (by simp)] at hs
        injection hs with e1 e2
        subst e1
        subst e2
        go_enter Try.func71, Try.ntmps71
        go_upto_region 1 with fail
        generalize World.alloc (World.alloc (World.alloc w _) _) _ = v at h0 ⊢
        generalize hgz : w.heap.size + 1 + 1 = gz at h0 ⊢
        generalize hgs : w.heap.size + 1 = gs at h0 ⊢
        generalize w.heap.size = gp at h0 ⊢
        clear hgz hgs
        have H0 := Lib.hid h0
        clear h0
        have k8 : v.cell? ⟨gp, 8, none⟩ = some (I p.walk) := H0.out.cell 2 8 rfl rfl
        have k9 : v.cell? ⟨gp, 9, none⟩ = some (I p.blinks) := H0.out.cell 2 9 rfl rfl
        rw [hk] at k8
        rw [hl] at k9
        have c0 : v.cell? ⟨gs, 0, none⟩ = some (I s) := H0.out.cell 1 0 rfl rfl
        have c1 : v.cell? ⟨gs, 1, none⟩ = some (I t) := H0.out.cell 1 1 rfl rfl
        go_wp2_with (first | (refine wpList_store_row rfl 41 _ _ rfl gz #[I 0, I 0] rfl rfl 41 _ (H0.out.at 0 rfl) infoFt rfl (by simp [Value.oneCell']) ?_))
        have hput := H0.out.put 0 rfl #[I 0, I 0]
        simp only [List.set_cons_succ, List.set_cons_zero] at hput
        generalize World.setRow v gz _ = vz at hput ⊢
        have HG := Lib.hid hput
        clear hput
        go_wp2_with fail
        (try simp only [Exit.inBlock, Exit.then])
        refine bodyPost_ret (v := .agg #[I 0, I 0]) ?_ rfl ⟨rfl, HG.out.bel⟩
        exact results_cell_row rfl _ _ gz 41 _ (0, 0) _ rfl (HG.out.at 0 rfl) Try.underlying41 rfl infoFt
      · by_cases h2 : 0 < k
        · unfold ft at hs
          rw [if_neg h1, if_neg h3, if_pos ⟨rfl, h2⟩] at hs
          injection hs with e1 e2
          subst e1
          subst e2
          go_enter Try.func71, Try.ntmps71
          go_upto_region 1 with fail
          generalize World.alloc (World.alloc (World.alloc w _) _) _ = v at h0 ⊢
          generalize hgz : w.heap.size + 1 + 1 = gz at h0 ⊢
          generalize hgs : w.heap.size + 1 = gs at h0 ⊢
          generalize w.heap.size = gp at h0 ⊢
          clear hgz hgs
          have H0 := Lib.hid h0
          clear h0
          have k8 : v.cell? ⟨gp, 8, none⟩ = some (I p.walk) := H0.out.cell 2 8 rfl rfl
          have k9 : v.cell? ⟨gp, 9, none⟩ = some (I p.blinks) := H0.out.cell 2 9 rfl rfl
          rw [hk] at k8
          rw [hl] at k9
          have c0 : v.cell? ⟨gs, 0, none⟩ = some (I s) := H0.out.cell 1 0 rfl rfl
          have c1 : v.cell? ⟨gs, 1, none⟩ = some (I t) := H0.out.cell 1 1 rfl rfl
          go_wp2_with (first | (refine wpList_store_row rfl 41 _ _ rfl gz #[I 1, I 1] rfl rfl 41 _ (H0.out.at 0 rfl) infoFt rfl (by simp [Value.oneCell']) ?_))
          have hput := H0.out.put 0 rfl #[I 1, I 1]
          simp only [List.set_cons_succ, List.set_cons_zero] at hput
          generalize World.setRow v gz _ = vz at hput ⊢
          have HG := Lib.hid hput
          clear hput
          go_wp2_with fail
          (try simp only [Exit.inBlock, Exit.then])
          refine bodyPost_ret (v := .agg #[I 1, I 1]) ?_ rfl ⟨rfl, HG.out.bel⟩
          exact results_cell_row rfl _ _ gz 41 _ (0, 0) _ rfl (HG.out.at 0 rfl) Try.underlying41 rfl infoFt
        · unfold ft at hs
          rw [if_neg h1, if_neg h3, if_neg (by simp [h2])] at hs
          injection hs with e1 e2
          subst e1
          subst e2
          go_enter Try.func71, Try.ntmps71
          go_upto_region 1 with fail
          generalize World.alloc (World.alloc (World.alloc w _) _) _ = v at h0 ⊢
          generalize hgz : w.heap.size + 1 + 1 = gz at h0 ⊢
          generalize hgs : w.heap.size + 1 = gs at h0 ⊢
          generalize w.heap.size = gp at h0 ⊢
          clear hgz hgs
          have H0 := Lib.hid h0
          clear h0
          have k8 : v.cell? ⟨gp, 8, none⟩ = some (I p.walk) := H0.out.cell 2 8 rfl rfl
          have k9 : v.cell? ⟨gp, 9, none⟩ = some (I p.blinks) := H0.out.cell 2 9 rfl rfl
          rw [hk] at k8
          rw [hl] at k9
          have c0 : v.cell? ⟨gs, 0, none⟩ = some (I s) := H0.out.cell 1 0 rfl rfl
          have c1 : v.cell? ⟨gs, 1, none⟩ = some (I t) := H0.out.cell 1 1 rfl rfl
          go_wp2_with (first | (refine wpList_store_row rfl 41 _ _ rfl gz #[I 0, I 0] rfl rfl 41 _ (H0.out.at 0 rfl) infoFt rfl (by simp [Value.oneCell']) ?_))
          have hput := H0.out.put 0 rfl #[I 0, I 0]
          simp only [List.set_cons_succ, List.set_cons_zero] at hput
          generalize World.setRow v gz _ = vz at hput ⊢
          have HG := Lib.hid hput
          clear hput
          go_wp2_with fail
          (try simp only [Exit.inBlock, Exit.then])
          refine bodyPost_ret (v := .agg #[I 0, I 0]) ?_ rfl ⟨rfl, HG.out.bel⟩
          exact results_cell_row rfl _ _ gz 41 _ (0, 0) _ rfl (HG.out.at 0 rfl) Try.underlying41 rfl infoFt
theorem rcut_is {s t a b : Int} (hs : cu s t = ⟨a, b⟩) (w : World) : Calls Try.prog 83 #[.agg #[I s, I t]] w fun e w' => e = .returned (.agg #[I a, I b]) ∧ Below w.heap.size w w' := by
  have h0 := ((Blk.Bks.nil w).alloc #[I s, I t] 41).alloc #[I 0, I 0] 41
  rw [show (w.alloc (.cells #[I s, I t] 41)).heap.size = w.heap.size + 1 by simp] at h0
  unfold cu at hs
  by_cases h1 : s = 1
  · subst h1
    rw [if_pos rfl] at hs
    injection hs with e1 e2
    subst e1 e2
    go_enter Try.func83, Try.ntmps83
    go_upto_region 1 with fail
    generalize World.alloc (World.alloc w _) _ = v at h0 ⊢
    generalize hgz : w.heap.size + 1 = gz at h0 ⊢
    generalize w.heap.size = gs at h0 ⊢
    clear hgz
    have H0 := Lib.hid h0
    clear h0
    have c0 : v.cell? ⟨gs, 0, none⟩ = some (I 1) := H0.out.cell 1 0 rfl rfl
    go_wp2_with (first | (refine wpList_store_row rfl 41 _ _ rfl gz #[I 2, I 1] rfl rfl 41 _ (H0.out.at 0 rfl) infoFt rfl (by simp [Value.oneCell']) ?_))
    have hput := H0.out.put 0 rfl #[I 2, I 1]
    simp only [List.set_cons_succ, List.set_cons_zero] at hput
    generalize World.setRow v gz _ = vz at hput ⊢
    have HG := Lib.hid hput
    clear hput
    go_wp2_with fail
    (try simp only [Exit.inBlock, Exit.then])
    refine bodyPost_ret (v := .agg #[I 2, I 1]) ?_ rfl ⟨rfl, HG.out.bel⟩
    exact results_cell_row rfl _ _ gz 41 _ (0, 0) _ rfl (HG.out.at 0 rfl) Try.underlying41 rfl infoFt
  · rw [if_neg h1] at hs
    injection hs with e1 e2
    subst e1 e2
    go_enter Try.func83, Try.ntmps83
    go_upto_region 1 with fail
    generalize World.alloc (World.alloc w _) _ = v at h0 ⊢
    generalize hgz : w.heap.size + 1 = gz at h0 ⊢
    generalize w.heap.size = gs at h0 ⊢
    clear hgz
    have H0 := Lib.hid h0
    clear h0
    have c0 : v.cell? ⟨gs, 0, none⟩ = some (I s) := H0.out.cell 1 0 rfl rfl
    go_wp2_with (first | (refine Row.wpList_load_g 41 _ rfl (by first | rfl | (go_simp; done) | fail) ⟨gs, 0, none⟩ rfl [I s, I t] _ (by have := Row.lies_of_block (H0.out.at 1 rfl); simpa using this) Try.underlying41 rfl infoFt ?_) | (refine wpList_store_row rfl 41 _ _ rfl gz #[I s, I t] rfl rfl 41 _ (H0.out.at 0 rfl) infoFt rfl (by simp [Value.oneCell']) ?_))
    have hput := H0.out.put 0 rfl #[I s, I t]
    simp only [List.set_cons_succ, List.set_cons_zero] at hput
    generalize World.setRow v gz _ = vz at hput ⊢
    have HG := Lib.hid hput
    clear hput
    go_wp2_with fail
    (try simp only [Exit.inBlock, Exit.then])
    refine bodyPost_ret (v := .agg #[I s, I t]) ?_ rfl ⟨rfl, HG.out.bel⟩
    exact results_cell_row rfl _ _ gz 41 _ (0, 0) _ rfl (HG.out.at 0 rfl) Try.underlying41 rfl infoFt
def idl (s : Int) : Bool := s != 1 && s != 2
theorem idle_any (s t : Int) (w : World) : Calls Try.prog 84 #[.agg #[I s, I t]] w fun e w' => e = .returned (.bool (idl s)) ∧ Below w.heap.size w w' := by
  have h0 := (Blk.Bks.nil w).alloc #[I s, I t] 41
  by_cases h1 : s = 1
  · subst h1
    have HE : Hid (idl 1 = false) := Lib.hid (by unfold idl; simp)
    go_enter Try.func84, Try.ntmps84
    go_upto_region 1 with fail
    generalize World.alloc w _ = v at h0 ⊢
    generalize w.heap.size = gs at h0 ⊢
    have H0 := Lib.hid h0
    clear h0
    have c0 : v.cell? ⟨gs, 0, none⟩ = some (I 1) := H0.out.cell 0 0 rfl rfl
    go_wp2
    go_ret
    exact ⟨ret_bool HE.out.symm, H0.out.bel⟩
  · by_cases h3 : s = 2
    · subst h3
      have HE : Hid (idl 2 = false) := Lib.hid (by unfold idl; simp)
      go_enter Try.func84, Try.ntmps84
      go_upto_region 1 with fail
      generalize World.alloc w _ = v at h0 ⊢
      generalize w.heap.size = gs at h0 ⊢
      have H0 := Lib.hid h0
      clear h0
      have c0 : v.cell? ⟨gs, 0, none⟩ = some (I 2) := H0.out.cell 0 0 rfl rfl
      go_wp2
      go_ret
      exact ⟨ret_bool HE.out.symm, H0.out.bel⟩
    · have HE : Hid (idl s = (s != 1 && s != 2)) := Lib.hid (by rfl)
      go_enter Try.func84, Try.ntmps84
      go_upto_region 1 with fail
      generalize World.alloc w _ = v at h0 ⊢
      generalize w.heap.size = gs at h0 ⊢
      have H0 := Lib.hid h0
      clear h0
      have c0 : v.cell? ⟨gs, 0, none⟩ = some (I s) := H0.out.cell 0 0 rfl rfl
      go_wp2
      go_ret
      exact ⟨ret_bool HE.out.symm, H0.out.bel⟩
end Ped
namespace Ru
open Go Go.ChangeShapes Go.WideShapes Go.ChangeAt Go.RowKit
open Tab Flat TabArg QL
open May (infoP)
open Ped (ft cu idl Ft)
open Gap (lm lf gr Tn)
structure Ru where
  co : Int
  tm : Int
  fs : Int
  ft : Int
  lf : Int
  pr : Int
  ex : Int
  dn : Bool
  mx : Bool
  tl : Int
  tu : Int
  td : Int
deriving DecidableEq
structure Cu where
  st : Bool
  en : Bool
  he : Bool
  pu : Bool
  ps : Bool
  ho : Bool
  ea : Bool
  kt : Bool
deriving DecidableEq
def Ru.cells (r : Ru) : List Value := [I r.co, I r.tm, I r.fs, I r.ft, I r.lf, I r.pr, I r.ex, .bool r.dn, .bool r.mx, I r.tl, I r.tu, I r.td]
def Cu.cells (c : Cu) : List Value := [.bool c.st, .bool c.en, .bool c.he, .bool c.pu, .bool c.ps, .bool c.ho, .bool c.ea, .bool c.kt]
section
variable {H : Type} {enc : TypeId × Value → H} {P : Program} {w : World} {base : Nat} {spare : Nat → Bool} {held : Bool}
end
theorem infoRu : (Try.prog.info? 45).map (·.size) = some 12 := by kernel_rfl
theorem infoCu : (Try.prog.info? 107).map (·.size) = some 8 := by kernel_rfl
theorem ret_bool {a b : Bool} (h : a = b) : Ending.returned (.bool a) = .returned (.bool b) := by rw [h]
theorem ret_ru {a b : Ru} (h : a = b) : Ending.returned (.agg a.cells.toArray) = .returned (.agg b.cells.toArray) := by rw [h]
theorem built0 : Try.prog.built 41 [] = some #[I 0, I 0] := by kernel_rfl
theorem builtT (r : Int) : Try.prog.built 43 [(0, I r)] = some #[I r, I 0, I 0] := by kernel_rfl
theorem built3 (k n a b c : Int) : Try.prog.built 45 [(0, I k), (1, I n), (8, .agg #[I a, I b, I c])] = some (Ru.cells ⟨k, n, 0, 0, 0, 0, 0, false, false, a, b, c⟩).toArray := by kernel_rfl
theorem built5 (k n s t l a b c : Int) : Try.prog.built 45 [(0, I k), (1, I n), (2, .agg #[I s, I t]), (3, I l), (8, .agg #[I a, I b, I c])] = some (Ru.cells ⟨k, n, s, t, l, 0, 0, false, false, a, b, c⟩).toArray := by kernel_rfl
theorem one_ru (r : Ru) : r.cells.toArray.all (·.oneCell') = true := by simp [Ru.cells, Value.oneCell']
/-- A part of a block known whole. -/
theorem seg {w u : World} {L : List Blk.Bl} (h : Blk.Bks w L u) (i k : Nat) {g : Nat} {cs : Array Value} {t : TypeId} (hi : L[i]? = some (g, cs, t)) (l : List Value) (hs : (cs.toList.drop k).take l.length = l) : Lies u ⟨g, k, none⟩ l := fun j v hv => by
  rw [Addr.add_mid, cell_of_row _ _ _ _ _ _ (h.at i hi)]
  have hj : j < l.length := (List.getElem?_eq_some_iff.1 hv).1
  rw [← hs, List.getElem?_take, if_pos hj, List.getElem?_drop] at hv
  simpa using hv
/-- The steps of a walk over a block of the call's own: a part is stored. -/
theorem store_mid {P : Program} {ops : Array Oper} {rest : List Oper} {o : Oper} {a : Act} {w u : World} {L : List Blk.Bl} {Q : Exit → Act → World → Prop} (hgd : o.guard = none) (ty : TypeId) (x y : Operand) (ho : o.op = .store ty x y) (g off : Nat) (cells : Array Value) (hx : a.eval x = .pointer (some ⟨g, off, none⟩)) (hy : a.eval y = .agg cells)
    (t : TypeId) (cur V : Array Value) (H : Blk.Bks w L u) (i : Nat) (hb : L[i]? = some (g, cur, t)) (hi : (P.info? ty).map (·.size) = some cells.size) (hl : off + cells.size ≤ cur.size) (h1 : cells.all (·.oneCell') = true) (hV : (cur.toList.take off ++ cells.toList ++ cur.toList.drop (off + cells.size)).toArray = V)
    (h : wpList P ops Q rest (a.put o.dst undef) (u.setRow g V)) : wpList P ops Q (o :: rest) a u :=
  QL.wpList_store_mid hgd ty x y ho g off cells hx hy t cur (H.at i hb) hi hl h1 (by rw [hV]; exact h)
theorem wpList_build {P : Program} {ops : Array Oper} {Q : Exit → Act → World → Prop} {rest : List Oper} {o : Oper} {a : Act} {w : World} (hgd : o.guard = none) (t : TypeId) (parts : List (Nat × Operand)) (ho : o.op = .build t parts.toArray) (cells : Array Value) (vs : List (Nat × Value)) (hv : parts.map (fun (i, x) => (i, a.eval x)) = vs) (hb : P.built t vs = some cells)
    (h : wpList P ops Q rest (a.put o.dst (.agg cells)) w) : wpList P ops Q (o :: rest) a w :=
  wpList_plain hgd fun _ hK => by
    subst hv
    unfold Oper.wp execOp
    have hb' : P.built t (parts.toArray.map fun (i, x) => (i, a.eval x)).toList = some cells := by simpa using hb
    simp only [ho, Sem.run_bind, run_build w t _ _ hb', Result.andThen_ok, Sem.run_pure]
    exact hK _ _ h
/-! What a tick does. -/
variable (p : Ph) (r : Ru) (c : Cu)
def fst (k : Int) : Ru := ⟨k, 1, 0, 0, 0, 0, 0, false, false, r.tl, r.tu, r.td⟩
def lst (k : Int) : Ru := ⟨k, Cnt.more r.tm, 0, 0, 0, 0, 0, false, false, r.tl, r.tu, r.td⟩
def fooA : Ft := if c.kt = true ∧ r.fs = 1 then cu r.fs r.ft else ft p.walk p.blinks r.fs r.ft (c.pu && !c.ps)
/-- a walk begins -/
def beg : Bool := idl r.fs && decide ((fooA p r c).st = 1)
def lon : Ru := ⟨r.co, Cnt.more r.tm, (fooA p r c).st, (fooA p r c).tm, lf p.gap r.lf c.he, if c.ps then Cnt.more r.pr else r.pr, r.ex, r.dn && !beg p r c, r.mx && !beg p r c, r.tl, r.tu, r.td⟩
def fuB (n : Ru) : Bool := decide (lm p n.tl ≤ n.pr)
def duB (n : Ru) : Bool := c.ps && (!n.dn && (decide (p.min ≤ n.tm) && (idl n.fs && (decide (n.lf = 0) || (fuB p n || c.ea)))))
def sty (n : Ru) : Ru := if duB p c n then (if c.ho then { n with ex := Cnt.more n.ex } else { n with dn := true, mx := decide (0 < n.lf) && fuB p n }) else n
def tre : Tn := if r.dn then gr p ⟨r.tl, r.tu, r.td⟩ r.mx else ⟨r.tl, r.tu, r.td⟩
def fin : Ru := ⟨2, 1, 0, 0, 0, 0, 0, false, false, (tre p r).lim, (tre p r).up, (tre p r).down⟩
def yel : Ru := if r.tm < p.yellow then lst r 2 else if 0 < p.red then fst r 3 else fst r 0
def cle : Ru := if r.tm < p.red then lst r 3 else fst r 0
def rdR : Ru := if c.st then ⟨1, 1, (ft p.walk p.blinks 0 0 c.pu).st, (ft p.walk p.blinks 0 0 c.pu).tm, p.gap, 0, 0, false, false, r.tl, r.tu, r.td⟩ else lst r 0
def stp : Ru := if r.co = 1 then (if c.en then fin p r else sty p c (lon p r c)) else if r.co = 2 then yel p r else if r.co = 3 then cle p r else rdR p r c
def bgn : Ru := ⟨0, 9999, 0, 0, 0, 0, 0, false, false, p.max, 0, 0⟩
end Ru
namespace PlaceM
open Go Tab
structure Spt where
  g : Nat
  k : Nat
  i : Nat
  p : Int
  deriving DecidableEq, Inhabited
/-- A table of few groups, with short rows. -/
structure Few (T : Tab) : Prop where
  groups : T.groups.length ≤ 1000
  rows : ∀ g ∈ T.groups, g.1.length ≤ 1000 ∧ g.2.length ≤ 1000
def Spt.cells (x : Spt) : List Value := [I x.g, I x.k, I x.i, I x.p]
theorem Spt.one (x : Spt) : x.cells.toArray.all (·.oneCell') = true := by simp [Spt.cells, Value.oneCell']
def one (g k i : Nat) (p : Int) : List Spt := if 0 ≤ p ∧ p < 8 then [⟨g, k, i, p⟩] else []
def rowS (g k : Nat) : Nat → List Int → List Spt
  | _, [] => []
  | i, p :: l => one g k i p ++ rowS g k (i + 1) l
def grpS (g : Nat) (x : List Int × List Int) : List Spt := rowS g 0 0 x.1 ++ rowS g 1 0 x.2
def allS : Nat → List (List Int × List Int) → List Spt
  | _, [] => []
  | g, x :: l => grpS g x ++ allS (g + 1) l
def spots (T : Tab) : List Spt := allS 0 T.groups
theorem rowS_append (g k : Nat) : ∀ (i : Nat) (l m : List Int), rowS g k i (l ++ m) = rowS g k i l ++ rowS g k (i + l.length) m
  | i, [], m => rfl
  | i, p :: l, m => by
    rw [List.cons_append, rowS, rowS, rowS_append g k (i + 1) l m, List.append_assoc, List.length_cons, show i + 1 + l.length = i + (l.length + 1) by omega]
theorem allS_append : ∀ (g : Nat) (l m : List (List Int × List Int)), allS g (l ++ m) = allS g l ++ allS (g + l.length) m
  | g, [], m => rfl
  | g, x :: l, m => by
    rw [List.cons_append, allS, allS, allS_append (g + 1) l m, List.append_assoc, List.length_cons, show g + 1 + l.length = g + (l.length + 1) by omega]
theorem take_succ {α : Type} {l : List α} {k : Nat} {v : α} (h : l[k]? = some v) : l.take (k + 1) = l.take k ++ [v] := by
  obtain ⟨hk, rfl⟩ := List.getElem?_eq_some_iff.1 h
  exact List.take_succ_eq_append_getElem hk
theorem row_step {g k i : Nat} {l : List Int} {p : Int} (h : l[i]? = some p) : rowS g k 0 (l.take (i + 1)) = rowS g k 0 (l.take i) ++ one g k i p := by
  have hi : i < l.length := (List.getElem?_eq_some_iff.1 h).1
  rw [take_succ h, rowS_append, List.length_take, Nat.min_eq_left (by omega), Nat.zero_add]
  simp [rowS]
theorem row_hit {g k i : Nat} {l : List Int} {p : Int} (h : l[i]? = some p) (h0 : 0 ≤ p) (h8 : p < 8) : rowS g k 0 (l.take (i + 1)) = rowS g k 0 (l.take i) ++ [⟨g, k, i, p⟩] := by
  rw [row_step h, one, if_pos ⟨h0, h8⟩]
theorem row_miss {g k i : Nat} {l : List Int} {p : Int} (h : l[i]? = some p) (h0 : ¬ (0 ≤ p ∧ p < 8)) : rowS g k 0 (l.take (i + 1)) = rowS g k 0 (l.take i) := by
  rw [row_step h, one, if_neg h0, List.append_nil]
theorem all_step {g : Nat} {l : List (List Int × List Int)} {x : List Int × List Int} (h : l[g]? = some x) : allS 0 (l.take (g + 1)) = allS 0 (l.take g) ++ (rowS g 0 0 x.1 ++ rowS g 1 0 x.2) := by
  have hi : g < l.length := (List.getElem?_eq_some_iff.1 h).1
  rw [take_succ h, allS_append, List.length_take, Nat.min_eq_left (by omega), Nat.zero_add]
  simp [allS, grpS]
theorem one_len (g k i : Nat) (p : Int) : (one g k i p).length ≤ 1 := by unfold one; split <;> simp
theorem rowS_len (g k : Nat) : ∀ (i : Nat) (l : List Int), (rowS g k i l).length ≤ l.length
  | i, [] => Nat.le_refl _
  | i, p :: l => by
    rw [rowS, List.length_append, List.length_cons]
    have := one_len g k i p
    have := rowS_len g k (i + 1) l
    omega
theorem allS_len : ∀ (g : Nat) (l : List (List Int × List Int)), (∀ x ∈ l, x.1.length ≤ 1000 ∧ x.2.length ≤ 1000) → (allS g l).length ≤ l.length * 2000
  | g, [], _ => by simp [allS]
  | g, x :: l, h => by
    rw [allS, List.length_append, List.length_cons, Nat.add_mul]
    have h1 := h x (by simp)
    have h2 := allS_len (g + 1) l (fun y hy => h y (by simp [hy]))
    have h3 := rowS_len g 0 0 x.1
    have h4 := rowS_len g 1 0 x.2
    rw [grpS, List.length_append]
    omega
theorem small_len {g : Nat} {l : List (List Int × List Int)} (hl : l.length ≤ 1000) (h : ∀ x ∈ l, x.1.length ≤ 1000 ∧ x.2.length ≤ 1000) : (allS g l).length ≤ 2000000 := by
  have := allS_len g l h
  omega
/-- The first place of a number. -/
def find (p : Int) (l : List Spt) : Option Spt := l.find? (fun x => x.p == p)
theorem find_none {p : Int} {l : List Spt} (h : ∀ x ∈ l, x.p ≠ p) : find p l = none := by
  unfold find
  rw [List.find?_eq_none]
  intro x hx
  simpa using h x hx
def where_ (T : Tab) (p : Int) : Option Spt := find p (spots T)
/-- Do two stand beside each other? -/
def beside (T : Tab) (p q : Int) : Bool := match where_ T p, where_ T q with
  | some a, some b => a.g == b.g && a.k != b.k
  | _, _ => false
end PlaceM
namespace SetM
/-- The lowest eight bits. -/
def low (s : Int) : Nat := (s % 256).toNat
theorem low_lt (s : Int) : low s < 256 := by unfold low; omega
theorem low_nat (m : Nat) (h : m < 256) : low (m : Int) = m := by unfold low; omega
/-- Is p a phase of s? -/
def has (s p : Int) : Bool := decide (0 ≤ p) && (low s).testBit p.toNat
/-- The set of p alone: empty if p is not a phase. -/
def bit (p : Int) : Nat := if 0 ≤ p ∧ p < 8 then 2 ^ p.toNat else 0
def withN (s p : Int) : Nat := low s ||| bit p
def withoutN (s p : Int) : Nat := low s &&& (255 - bit p)
theorem toNat_low (s : Int) : (BitVec.ofInt 64 s).toNat % 256 = low s := by
  rw [BitVec.toNat_ofInt]
  unfold low
  show (s % ((18446744073709551616 : Nat) : Int)).toNat % 256 = _
  omega
theorem toNat_ofNat (b : Nat) (h : b < 256) : (BitVec.ofInt 64 (b : Int)).toNat = b := by
  rw [BitVec.toNat_ofInt]
  show ((b : Int) % ((18446744073709551616 : Nat) : Int)).toNat = _
  omega
theorem low_wrap (n : Nat) : low (IntKind.i64.wrap (n : Int)) = n % 256 := by
  rw [IntKind.wrap_i64]; unfold low; omega
theorem wrap_small (n : Nat) (h : n < 256) : IntKind.i64.wrap (n : Int) = n := by
  rw [IntKind.wrap_i64]; omega
theorem and_low (s : Int) (b : Nat) (h : b < 256) : bits .and .i64 s (b : Int) = ((low s &&& b : Nat) : Int) := by
  show IntKind.i64.wrap ((BitVec.ofInt 64 s &&& BitVec.ofInt 64 (b : Int)).toNat : Nat) = _
  rw [BitVec.toNat_and, toNat_ofNat b h]
  have h1 : (BitVec.ofInt 64 s).toNat &&& b < 256 := Nat.and_lt_two_pow (n := 8) _ h
  have h2 : ((BitVec.ofInt 64 s).toNat &&& b) % 2 ^ 8 = _ := Nat.and_mod_two_pow
  rw [wrap_small _ h1, ← toNat_low s]
  rw [Nat.mod_eq_of_lt h1, Nat.mod_eq_of_lt (show b < 2 ^ 8 from h)] at h2
  rw [h2]
theorem and_255 (s : Int) : bits .and .i64 s 255 = (low s : Int) := by
  have := and_low s 255 (by decide)
  have h2 : low s &&& 255 = low s := by
    have h3 := Nat.and_two_pow_sub_one_eq_mod (low s) 8
    have h4 := low_lt s
    rw [show (2 ^ 8 - 1 : Nat) = 255 from rfl] at h3
    rw [h3]; omega
  rw [h2] at this
  exact this
theorem or_low (s : Int) (b : Nat) (h : b < 256) : low (bits .or .i64 s (b : Int)) = low s ||| b := by
  show low (IntKind.i64.wrap ((BitVec.ofInt 64 s ||| BitVec.ofInt 64 (b : Int)).toNat : Nat)) = _
  rw [low_wrap, BitVec.toNat_or, toNat_ofNat b h, ← toNat_low s]
  have h2 : ((BitVec.ofInt 64 s).toNat ||| b) % 2 ^ 8 = _ := Nat.or_mod_two_pow
  rw [Nat.mod_eq_of_lt (show b < 2 ^ 8 from h)] at h2
  exact h2
theorem andNot_low (s : Int) (b : Nat) (h : b < 256) : low (bits .andNot .i64 s (b : Int)) = low s &&& (255 - b) := by
  show low (IntKind.i64.wrap ((BitVec.ofInt 64 s &&& ~~~ BitVec.ofInt 64 (b : Int)).toNat : Nat)) = _
  rw [low_wrap, BitVec.toNat_and, BitVec.toNat_not, toNat_ofNat b h, ← toNat_low s]
  have h2 : ((BitVec.ofInt 64 s).toNat &&& (2 ^ 64 - 1 - b)) % 2 ^ 8 = _ := Nat.and_mod_two_pow
  rw [show (2 ^ 64 - 1 - b) % 2 ^ 8 = 255 - b by omega] at h2
  exact h2
theorem bit_lt (p : Int) : bit p < 256 := by
  unfold bit
  split
  · rename_i h
    have : 2 ^ p.toNat ≤ 2 ^ 7 := Nat.pow_le_pow_right (by decide) (by omega)
    omega
  · decide
theorem bit_out {p : Int} (h : ¬ (0 ≤ p ∧ p < 8)) : bit p = 0 := by unfold bit; rw [if_neg h]
theorem bit_in (k : Nat) (h : k < 8) : bit (k : Int) = 2 ^ k := by unfold bit; rw [if_pos ⟨by omega, by omega⟩]; simp
theorem with_lt (s p : Int) : withN s p < 256 := Nat.or_lt_two_pow (n := 8) (low_lt s) (bit_lt p)
theorem with_bits (s p : Int) : bits .and .i64 (bits .or .i64 s (bit p)) 255 = (withN s p : Int) := by
  rw [and_255, or_low s _ (bit_lt p)]; rfl
theorem test_high (m k : Nat) (h : m < 256) (hk : 8 ≤ k) : m.testBit k = false :=
  Nat.testBit_lt_two_pow (Nat.lt_of_lt_of_le h (Nat.pow_le_pow_right (n := 2) (by decide) hk : 2 ^ 8 ≤ 2 ^ k))
theorem test_bit (p : Int) (k : Nat) : (bit p).testBit k = decide ((k : Int) = p ∧ k < 8) := by
  unfold bit
  split
  · rename_i h
    rw [Nat.testBit_two_pow]
    rw [Bool.eq_iff_iff, decide_eq_true_iff, decide_eq_true_iff]
    omega
  · rename_i h
    rw [Nat.zero_testBit]
    symm
    rw [decide_eq_false_iff_not]
    omega
theorem has_neg (s p : Int) (h : p < 0) : has s p = false := by unfold has; rw [decide_eq_false (by omega)]; rfl
theorem has_big (s p : Int) (h : 8 ≤ p) : has s p = false := by
  unfold has; rw [test_high _ _ (low_lt s) (by omega), Bool.and_false]
theorem has_nat (s : Int) (k : Nat) : has s k = (low s).testBit k := by unfold has; simp
theorem has_and (s p : Int) : (bits .and .i64 s (bit p) = 0) ↔ has s p = false := by
  rw [and_low s _ (bit_lt p)]
  by_cases h : 0 ≤ p ∧ p < 8
  · obtain ⟨k, rfl⟩ := Int.eq_ofNat_of_zero_le h.1
    rw [bit_in k (by omega), has_nat]
    cases hb : (low s).testBit k
    · have h2 : low s &&& 2 ^ k = 0 := by
        apply Nat.eq_of_testBit_eq
        intro j
        rw [Nat.testBit_and, Nat.testBit_two_pow, Nat.zero_testBit]
        by_cases e : k = j
        · rw [← e, hb]; rfl
        · rw [decide_eq_false e, Bool.and_false]
      rw [h2]; simp
    · have h2 : low s &&& 2 ^ k ≠ 0 := by
        intro h3
        have h4 := congrArg (fun n => n.testBit k) h3
        simp only [Nat.testBit_and, Nat.testBit_two_pow, Nat.zero_testBit, hb] at h4
        simp at h4
      simp; omega
  · rw [bit_out h, Nat.and_zero]
    have h2 : has s p = false := by
      by_cases h3 : p < 0
      · exact has_neg s p h3
      · exact has_big s p (by omega)
    simp [h2]
/-- The document's own way to ask it. -/
theorem has_shr (s : Int) (k : Nat) (h : k < 8) : bits .and .i64 (s / 2 ^ k) 1 = if has s k then 1 else 0 := by
  have h1 := and_low (s / 2 ^ k) 1 (by decide)
  have h2 : low (s / 2 ^ k) &&& 1 = low s / 2 ^ k % 2 := by
    rw [Nat.and_one_is_mod]
    have h3 : k = 0 ∨ k = 1 ∨ k = 2 ∨ k = 3 ∨ k = 4 ∨ k = 5 ∨ k = 6 ∨ k = 7 := by omega
    unfold low
    rcases h3 with rfl | rfl | rfl | rfl | rfl | rfl | rfl | rfl
    all_goals (simp only [Nat.reducePow, Int.reducePow]; omega)
  rw [h2] at h1
  rw [has_nat, Nat.testBit_eq_decide_div_mod_eq]
  rw [show ((1 : Nat) : Int) = 1 from rfl] at h1
  rw [h1]
  have h4 : low s / 2 ^ k % 2 < 2 := Nat.mod_lt _ (by decide)
  split <;> rename_i h5
  · rw [of_decide_eq_true h5]; rfl
  · have : low s / 2 ^ k % 2 = 0 := by simp at h5; omega
    rw [this]; rfl
/-- The phases below k. -/
def upto (s : Int) (k : Nat) : List Int := ((List.range k).filter fun j => (low s).testBit j).map Int.ofNat
def list (s : Int) : List Int := upto s 8
theorem upto_zero (s : Int) : upto s 0 = [] := rfl
theorem upto_hit (s : Int) (k : Nat) (h : has s k = true) : upto s (k + 1) = upto s k ++ [(k : Int)] := by
  rw [has_nat] at h
  unfold upto; rw [List.range_succ, List.filter_append, List.map_append]; simp [h]
theorem upto_miss (s : Int) (k : Nat) (h : has s k = false) : upto s (k + 1) = upto s k := by
  rw [has_nat] at h
  unfold upto; rw [List.range_succ, List.filter_append, List.map_append]; simp [h]
theorem upto_len (s : Int) (k : Nat) : (upto s k).length ≤ k := by
  unfold upto; rw [List.length_map]; have := List.length_filter_le (fun j => (low s).testBit j) (List.range k); simpa using this
theorem upto_pre (s : Int) (k d : Nat) : upto s k <+: upto s (k + d) := by
  unfold upto; rw [List.range_add, List.filter_append, List.map_append]; exact List.prefix_append _ _
theorem list_len (s : Int) : (list s).length ≤ 8 := upto_len s 8
theorem upto_lt (s : Int) (k : Nat) (h : k < 8) (h' : has s k = true) : (upto s k).length < (list s).length := by
  have h1 := (upto_pre s (k + 1) (8 - (k + 1))).length_le
  rw [show k + 1 + (8 - (k + 1)) = 8 by omega, upto_hit s k h', List.length_append] at h1
  unfold list
  simp at h1 ⊢
  omega
theorem upto_list (s : Int) (k : Nat) (h : k ≤ 8) : upto s k <+: list s := by
  have := upto_pre s k (8 - k)
  rwa [show k + (8 - k) = 8 by omega] at this
theorem mem_list (s p : Int) : p ∈ list s ↔ has s p = true := by
  unfold list upto
  rw [List.mem_map]
  constructor
  · rintro ⟨j, hj, rfl⟩
    rw [List.mem_filter] at hj
    rw [show Int.ofNat j = (j : Int) from rfl, has_nat]; exact hj.2
  · intro h
    have h0 : 0 ≤ p := by
      by_cases h1 : 0 ≤ p
      · exact h1
      · rw [has_neg s p (by omega)] at h; cases h
    have h8 : p < 8 := by
      by_cases h1 : p < 8
      · exact h1
      · rw [has_big s p (by omega)] at h; cases h
    obtain ⟨k, rfl⟩ := Int.eq_ofNat_of_zero_le h0
    rw [has_nat] at h
    have h9 : k < 8 := by omega
    exact ⟨k, List.mem_filter.2 ⟨List.mem_range.2 h9, h⟩, rfl⟩
theorem list_bd (s p : Int) (h : p ∈ list s) : 0 ≤ p ∧ p < 8 := by
  unfold list upto at h
  obtain ⟨j, hj, rfl⟩ := List.mem_map.1 h
  have := List.mem_range.1 (List.mem_filter.1 hj).1
  rw [show Int.ofNat j = (j : Int) from rfl]
  omega
/-- The set of a list. -/
def of (l : List Int) : Nat := l.foldl (fun m p => m ||| bit p) 0
theorem of_snoc (l : List Int) (p : Int) : of (l ++ [p]) = of l ||| bit p := by unfold of; rw [List.foldl_append]; rfl
theorem fold_lt (l : List Int) (m : Nat) (h : m < 256) : l.foldl (fun m p => m ||| bit p) m < 256 := by
  induction l generalizing m with
  | nil => exact h
  | cons p l ih => exact ih _ (Nat.or_lt_two_pow (n := 8) h (bit_lt p))
theorem of_lt (l : List Int) : of l < 256 := fold_lt l 0 (by decide)
theorem with_of (l : List Int) (p : Int) : withN (of l : Nat) p = of (l ++ [p]) := by
  rw [of_snoc]; unfold withN; rw [low_nat _ (of_lt l)]
theorem fold_test (l : List Int) (m k : Nat) : (l.foldl (fun m p => m ||| bit p) m).testBit k = (m.testBit k || decide ((k : Int) ∈ l ∧ k < 8)) := by
  induction l generalizing m with
  | nil => simp
  | cons p l ih =>
    rw [List.foldl_cons, ih, Nat.testBit_or, test_bit, Bool.or_assoc]
    congr 1
    rw [Bool.eq_iff_iff, Bool.or_eq_true, decide_eq_true_iff, decide_eq_true_iff, decide_eq_true_iff, List.mem_cons]
    constructor
    · rintro (⟨a, b⟩ | ⟨a, b⟩)
      · exact ⟨.inl a, b⟩
      · exact ⟨.inr a, b⟩
    · rintro ⟨a | a, b⟩
      · exact .inl ⟨a, b⟩
      · exact .inr ⟨a, b⟩
theorem of_test (l : List Int) (k : Nat) : (of l).testBit k = decide ((k : Int) ∈ l ∧ k < 8) := by
  unfold of; rw [fold_test, Nat.zero_testBit, Bool.false_or]
theorem eq_of {m m' : Nat} (h : m < 256) (h' : m' < 256) (e : ∀ k, k < 8 → m.testBit k = m'.testBit k) : m = m' := by
  apply Nat.eq_of_testBit_eq
  intro k
  by_cases hk : k < 8
  · exact e k hk
  · rw [test_high m k h (by omega), test_high m' k h' (by omega)]
/-- The document's own way to make it: phase by phase. -/
def refOf (l : List Int) : Nat → Nat
  | 0 => 0
  | k + 1 => if (k : Int) ∈ l then refOf l k ||| 2 ^ k else refOf l k
theorem refOf_hit (l : List Int) (k : Nat) (h : (k : Int) ∈ l) : refOf l (k + 1) = refOf l k ||| 2 ^ k := by rw [refOf, if_pos h]
theorem refOf_miss (l : List Int) (k : Nat) (h : ¬ (k : Int) ∈ l) : refOf l (k + 1) = refOf l k := by rw [refOf, if_neg h]
theorem refOf_lt (l : List Int) (k : Nat) : refOf l k < 2 ^ k := by
  induction k with
  | zero => exact Nat.one_pos
  | succ k ih =>
    have h1 : refOf l k < 2 ^ (k + 1) := Nat.lt_of_lt_of_le ih (Nat.pow_le_pow_right (by decide) (by omega))
    rw [refOf]
    split
    · exact Nat.or_lt_two_pow h1 (Nat.pow_lt_pow_right (by decide) (by omega))
    · exact h1
theorem refOf_test (l : List Int) (k j : Nat) : (refOf l k).testBit j = decide (j < k ∧ (j : Int) ∈ l) := by
  induction k with
  | zero => simp [refOf]
  | succ k ih =>
    by_cases h : (k : Int) ∈ l
    · rw [refOf_hit l k h, Nat.testBit_or, ih, Nat.testBit_two_pow, Bool.eq_iff_iff, Bool.or_eq_true, decide_eq_true_iff, decide_eq_true_iff, decide_eq_true_iff]
      constructor
      · rintro (⟨a, b⟩ | rfl)
        · exact ⟨by omega, b⟩
        · exact ⟨by omega, h⟩
      · rintro ⟨a, b⟩
        by_cases e : k = j
        · exact .inr e
        · exact .inl ⟨by omega, b⟩
    · rw [refOf_miss l k h, ih, Bool.eq_iff_iff, decide_eq_true_iff, decide_eq_true_iff]
      constructor
      · rintro ⟨a, b⟩
        exact ⟨by omega, b⟩
      · rintro ⟨a, b⟩
        have : j ≠ k := by rintro rfl; exact h b
        exact ⟨by omega, b⟩
theorem refOf_eq (l : List Int) : refOf l 8 = of l := by
  refine eq_of (refOf_lt l 8) (of_lt l) fun k hk => ?_
  rw [refOf_test, of_test, Bool.eq_iff_iff, decide_eq_true_iff, decide_eq_true_iff, and_comm]
theorem list_test (s : Int) (k : Nat) (hk : k < 8) : decide ((k : Int) ∈ list s ∧ k < 8) = (low s).testBit k := by
  rw [Bool.eq_iff_iff, decide_eq_true_iff, mem_list, has_nat]
  exact ⟨fun h => h.1, fun h => ⟨h, hk⟩⟩
theorem of_list (s : Int) : of (list s) = low s := by
  refine eq_of (of_lt _) (low_lt s) fun k hk => ?_
  rw [of_test, list_test s k hk]
theorem of_with (s p : Int) : of (list s ++ [p]) = withN s p := by
  rw [of_snoc, of_list]; rfl
def first (s : Int) : Int := (list s).headD (-1)
end SetM
namespace PlanM
open Go Tab PlaceM
def Lt (x y : Spt) : Prop := x.g < y.g ∨ x.g = y.g ∧ (x.k < y.k ∨ x.k = y.k ∧ x.i < y.i)
theorem mem_one {g k i : Nat} {p : Int} {x : Spt} : x ∈ one g k i p ↔ x = ⟨g, k, i, p⟩ ∧ 0 ≤ p ∧ p < 8 := by
  unfold one
  split
  · rename_i h; simp [h]
  · rename_i h
    constructor
    · intro hx; simp at hx
    · intro hx; exact absurd hx.2 h
theorem mem_row {g k : Nat} {x : Spt} : ∀ {i : Nat} {l : List Int}, x ∈ rowS g k i l ↔ x.g = g ∧ x.k = k ∧ i ≤ x.i ∧ l[x.i - i]? = some x.p ∧ 0 ≤ x.p ∧ x.p < 8
  | i, [] => by simp [rowS]
  | i, p :: l => by
    rw [rowS, List.mem_append, mem_one, mem_row]
    constructor
    · rintro (⟨rfl, h1, h2⟩ | ⟨h1, h2, h3, h4, h5⟩)
      · exact ⟨rfl, rfl, Nat.le_refl _, by simp, h1, h2⟩
      · refine ⟨h1, h2, by omega, ?_, h5⟩
        rw [show x.i - i = (x.i - (i + 1)) + 1 by omega, List.getElem?_cons_succ]; exact h4
    · rintro ⟨h1, h2, h3, h4, h5, h6⟩
      by_cases e : x.i = i
      · left
        rw [e, Nat.sub_self, List.getElem?_cons_zero] at h4
        obtain rfl := Option.some.inj h4
        obtain ⟨a, b, c, d⟩ := x
        simp only at h1 h2 e h5 h6 ⊢
        subst h1 h2 e
        exact ⟨rfl, h5, h6⟩
      · right
        refine ⟨h1, h2, by omega, ?_, h5, h6⟩
        rw [show x.i - i = (x.i - (i + 1)) + 1 by omega, List.getElem?_cons_succ] at h4; exact h4
/-- A group's row by its number. -/
def ringOf (y : List Int × List Int) (k : Nat) : List Int := if k = 0 then y.1 else if k = 1 then y.2 else []
theorem mem_all {x : Spt} : ∀ {g : Nat} {l : List (List Int × List Int)}, x ∈ allS g l ↔ g ≤ x.g ∧ ∃ y, l[x.g - g]? = some y ∧ (ringOf y x.k)[x.i]? = some x.p ∧ 0 ≤ x.p ∧ x.p < 8
  | g, [] => by simp [allS]
  | g, y :: l => by
    rw [allS, grpS, List.mem_append, List.mem_append, mem_row, mem_row, mem_all]
    constructor
    · rintro ((⟨h1, h2, h3, h4, h5⟩ | ⟨h1, h2, h3, h4, h5⟩) | ⟨h1, z, h2, h3⟩)
      · exact ⟨by omega, y, by rw [h1, Nat.sub_self]; rfl, by rw [h2]; simpa [ringOf] using h4, h5⟩
      · exact ⟨by omega, y, by rw [h1, Nat.sub_self]; rfl, by rw [h2]; simpa [ringOf] using h4, h5⟩
      · exact ⟨by omega, z, by rw [show x.g - g = (x.g - (g + 1)) + 1 by omega, List.getElem?_cons_succ]; exact h2, h3⟩
    · rintro ⟨h1, z, h2, h3, h4⟩
      by_cases e : x.g = g
      · left
        rw [e, Nat.sub_self, List.getElem?_cons_zero] at h2
        obtain rfl := Option.some.inj h2
        unfold ringOf at h3
        by_cases e0 : x.k = 0
        · rw [if_pos e0] at h3
          exact .inl ⟨e, e0, Nat.zero_le _, h3, h4⟩
        · rw [if_neg e0] at h3
          by_cases e1 : x.k = 1
          · rw [if_pos e1] at h3
            exact .inr ⟨e, e1, Nat.zero_le _, h3, h4⟩
          · rw [if_neg e1] at h3
            simp at h3
      · right
        rw [show x.g - g = (x.g - (g + 1)) + 1 by omega, List.getElem?_cons_succ] at h2
        exact ⟨by omega, z, h2, h3, h4⟩
theorem mem_spots {T : Tab} {x : Spt} : x ∈ spots T ↔ ∃ y, T.groups[x.g]? = some y ∧ (ringOf y x.k)[x.i]? = some x.p ∧ 0 ≤ x.p ∧ x.p < 8 := by
  unfold spots
  rw [mem_all]
  simp
theorem one_sorted (g k i : Nat) (p : Int) : (one g k i p).Pairwise Lt := by unfold one; split <;> simp
theorem row_sorted (g k : Nat) : ∀ (i : Nat) (l : List Int), (rowS g k i l).Pairwise Lt
  | i, [] => List.Pairwise.nil
  | i, p :: l => by
    rw [rowS, List.pairwise_append]
    refine ⟨one_sorted g k i p, row_sorted g k (i + 1) l, fun x hx y hy => ?_⟩
    obtain ⟨rfl, _⟩ := mem_one.1 hx
    obtain ⟨h1, h2, h3, _⟩ := mem_row.1 hy
    unfold Lt
    simp only
    omega
theorem all_sorted : ∀ (g : Nat) (l : List (List Int × List Int)), (allS g l).Pairwise Lt
  | g, [] => List.Pairwise.nil
  | g, y :: l => by
    rw [allS, grpS, List.pairwise_append, List.pairwise_append]
    refine ⟨⟨row_sorted g 0 0 y.1, row_sorted g 1 0 y.2, fun x hx z hz => ?_⟩, all_sorted (g + 1) l, fun x hx z hz => ?_⟩
    · obtain ⟨h1, h2, _⟩ := mem_row.1 hx
      obtain ⟨h3, h4, _⟩ := mem_row.1 hz
      unfold Lt
      omega
    · obtain ⟨h1, _⟩ := mem_all.1 hz
      have h2 : x.g = g := by
        rcases List.mem_append.1 hx with hx | hx
        · exact (mem_row.1 hx).1
        · exact (mem_row.1 hx).1
      unfold Lt
      omega
theorem spots_sorted (T : Tab) : (spots T).Pairwise Lt := all_sorted 0 _
theorem find_hit {c : Spt → Bool} {x : Spt} : ∀ {l : List Spt}, l.Pairwise Lt → x ∈ l → c x = true → (∀ y ∈ l, Lt y x → c y = false) → l.find? c = some x
  | [], _, hx, _, _ => by simp at hx
  | y :: l, hp, hx, hc, hn => by
    rw [List.pairwise_cons] at hp
    rcases List.mem_cons.1 hx with rfl | hx
    · rw [List.find?_cons, hc]
    · rw [List.find?_cons, hn y (by simp) (hp.1 x hx)]
      exact find_hit hp.2 hx hc (fun z hz => hn z (by simp [hz]))
/-- A group's rows, none where there is no group. -/
def rowsAt (T : Tab) (g : Int) : List Int × List Int := if 0 ≤ g ∧ g < T.groups.length then T.groups.getD g.toNat ([], []) else ([], [])
def ringAt (T : Tab) (g r : Int) : List Int := if r = 0 then (rowsAt T g).1 else if r = 1 then (rowsAt T g).2 else []
theorem rows_in {T : Tab} {g : Nat} {y : List Int × List Int} (h : T.groups[g]? = some y) : rowsAt T g = y := by
  have hg : g < T.groups.length := (List.getElem?_eq_some_iff.1 h).1
  unfold rowsAt
  rw [if_pos ⟨by omega, by omega⟩, Int.toNat_natCast, List.getD_eq_getElem?_getD, h]; rfl
theorem rows_out {T : Tab} {g : Int} (h : ¬ (0 ≤ g ∧ g < T.groups.length)) : rowsAt T g = ([], []) := by unfold rowsAt; rw [if_neg h]
theorem mem_ringAt {T : Tab} {x : Spt} : x ∈ spots T ↔ (ringAt T x.g x.k)[x.i]? = some x.p ∧ 0 ≤ x.p ∧ x.p < 8 := by
  rw [mem_spots]
  have e0 : ((x.k : Int) = 0) ↔ x.k = 0 := by omega
  have e1 : ((x.k : Int) = 1) ↔ x.k = 1 := by omega
  constructor
  · rintro ⟨y, h1, h2, h3⟩
    refine ⟨?_, h3⟩
    unfold ringAt
    rw [rows_in h1]
    simpa only [ringOf, e0, e1] using h2
  · rintro ⟨h1, h2⟩
    by_cases hg : x.g < T.groups.length
    · have hy := List.getElem?_eq_getElem hg
      refine ⟨_, hy, ?_, h2⟩
      unfold ringAt at h1
      rw [rows_in hy] at h1
      simpa only [ringOf, e0, e1] using h1
    · unfold ringAt at h1
      rw [rows_out (by omega)] at h1
      simp at h1
/-- P8.1, Members: a group's set. -/
def membS (T : Tab) (g : Int) : Nat := SetM.of (rowsAt T g).1 ||| SetM.of (rowsAt T g).2
theorem memb_lt (T : Tab) (g : Int) : membS T g < 256 := Nat.or_lt_two_pow (n := 8) (SetM.of_lt _) (SetM.of_lt _)
theorem memb_test (T : Tab) (g : Int) (k : Nat) : (membS T g).testBit k = decide (((k : Int) ∈ (rowsAt T g).1 ∨ (k : Int) ∈ (rowsAt T g).2) ∧ k < 8) := by
  unfold membS
  rw [Nat.testBit_or, SetM.of_test, SetM.of_test, Bool.eq_iff_iff]
  simp only [Bool.or_eq_true, decide_eq_true_eq]
  constructor
  · rintro (⟨h1, h2⟩ | ⟨h1, h2⟩)
    · exact ⟨.inl h1, h2⟩
    · exact ⟨.inr h1, h2⟩
  · rintro ⟨h1 | h1, h2⟩
    · exact .inl ⟨h1, h2⟩
    · exact .inr ⟨h1, h2⟩
/-- The first index of a row behind 'at' whose phase is in the set; -1 if there is none. -/
def nextIn (l : List Int) (a want : Int) : Int := match (List.range l.length).find? (fun i : Nat => decide (a < (i : Int)) && SetM.has want (l.getD i 0)) with
  | some i => i
  | none => -1
/-- P8.1, Next. -/
def nextS (T : Tab) (g r a want : Int) : Int := nextIn (ringAt T g r) a want
theorem range_hit {c : Nat → Bool} {n i : Nat} (hi : i < n) (hc : c i = true) (hn : ∀ j, j < i → c j = false) : (List.range n).find? c = some i := by
  rw [List.find?_range_eq_some]
  exact ⟨hc, List.mem_range.2 hi, fun j hj => by rw [hn j hj]; rfl⟩
theorem range_miss {c : Nat → Bool} {n : Nat} (hn : ∀ j, j < n → c j = false) : (List.range n).find? c = none := by
  rw [List.find?_eq_none]
  intro x hx
  rw [hn x (List.mem_range.1 hx)]; simp
theorem next_hit {l : List Int} {a want : Int} {i : Nat} (hi : i < l.length) (h1 : a < i) (h2 : SetM.has want (l.getD i 0) = true) (hn : ∀ j, j < i → ¬ (a < (j : Int) ∧ SetM.has want (l.getD j 0) = true)) : nextIn l a want = i := by
  unfold nextIn
  rw [range_hit hi (by rw [h2, decide_eq_true h1]; rfl) (fun j hj => by
    have := hn j hj
    rw [Bool.and_eq_false_iff, decide_eq_false_iff_not, ← Bool.not_eq_true]
    by_cases e : a < (j : Int)
    · exact .inr (fun h => this ⟨e, h⟩)
    · exact .inl e)]
theorem next_miss {l : List Int} {a want : Int} (hn : ∀ j, j < l.length → ¬ (a < (j : Int) ∧ SetM.has want (l.getD j 0) = true)) : nextIn l a want = -1 := by
  unfold nextIn
  rw [range_miss (fun j hj => by
    have := hn j hj
    rw [Bool.and_eq_false_iff, decide_eq_false_iff_not, ← Bool.not_eq_true]
    by_cases e : a < (j : Int)
    · exact .inr (fun h => this ⟨e, h⟩)
    · exact .inl e)]
theorem next_nil (a want : Int) : nextIn [] a want = -1 := rfl
theorem has_range {s p : Int} (h : SetM.has s p = true) : 0 ≤ p ∧ p < 8 := SetM.list_bd s p ((SetM.mem_list s p).2 h)
/-- P8.1, Following. -/
def fromG (T : Tab) (g : Int) : Int := if 0 ≤ g ∧ g < T.groups.length then g else T.groups.length - 1
def folC (T : Tab) (g want : Int) (i : Nat) : Bool := decide (bits .and .i64 (membS T ((fromG T g + 1 + i) % T.groups.length) : Nat) want ≠ 0)
def followS (T : Tab) (g want : Int) : Int := match (List.range T.groups.length).find? (folC T g want) with
  | some i => (fromG T g + 1 + i) % T.groups.length
  | none => -1
theorem follow_hit {T : Tab} {g want : Int} {i : Nat} (hi : i < T.groups.length) (hc : folC T g want i = true) (hn : ∀ j, j < i → folC T g want j = false) : followS T g want = (fromG T g + 1 + i) % T.groups.length := by
  unfold followS
  rw [range_hit hi hc hn]
theorem follow_miss {T : Tab} {g want : Int} (hn : ∀ j, j < T.groups.length → folC T g want j = false) : followS T g want = -1 := by
  unfold followS
  rw [range_miss hn]
end PlanM
namespace SetM
theorem has_of (m : Nat) (h : m < 256) (p : Int) : has (m : Int) p = (decide (0 ≤ p) && m.testBit p.toNat) := by unfold has; rw [low_nat m h]
theorem has_with (s p q : Int) : has (withN s p : Nat) q = (has s q || (bit p != 0 && q == p)) := by
  rw [has_of _ (with_lt s p)]
  unfold withN
  by_cases h0 : 0 ≤ q
  · obtain ⟨k, rfl⟩ := Int.eq_ofNat_of_zero_le h0
    rw [decide_eq_true h0, Bool.true_and, Nat.testBit_or, Int.toNat_natCast, has_nat, test_bit]
    congr 1
    rw [Bool.eq_iff_iff, decide_eq_true_iff, Bool.and_eq_true, bne_iff_ne, beq_iff_eq]
    constructor
    · rintro ⟨e, h8⟩
      rw [← e, bit_in k h8]
      exact ⟨Nat.ne_of_gt (Nat.two_pow_pos k), rfl⟩
    · rintro ⟨h1, e⟩
      refine ⟨e, ?_⟩
      by_cases h8 : k < 8
      · exact h8
      · exact absurd (bit_out (p := p) (by omega)) h1
  · rw [decide_eq_false h0, Bool.false_and, has_neg s q (by omega), Bool.false_or]
    symm
    rw [Bool.and_eq_false_iff]
    by_cases e : q = p
    · left; rw [bit_out (by omega)]; rfl
    · right; simpa using e
end SetM
namespace RefS
open Go.ChangeShapes Go.WideShapes Go.ChangeAt Go.RowKit
open Go.Proofs.Ytjgpljnbeolapaa
theorem ret_int {k : IntKind} {a b : Int} (h : a = b) : Ending.returned (.int k a) = .returned (.int k b) := by rw [h]
theorem ret_bool {a b : Bool} (h : a = b) : Ending.returned (.bool a) = .returned (.bool b) := by rw [h]
theorem eight {p : Int} (h : 0 ≤ p) (h' : p < 8) : p = 0 ∨ p = 1 ∨ p = 2 ∨ p = 3 ∨ p = 4 ∨ p = 5 ∨ p = 6 ∨ p = 7 := by omega
theorem shr_has (s : Int) (k : Nat) (h : k < 8) : (bits .and .i64 (s / 2 ^ k) 1 == 1) = SetM.has s k := by
  rw [SetM.has_shr s k h]
  cases SetM.has s k <;> rfl
theorem rhas_any (s p : Int) (w : World) : Calls Try.prog 14 #[.int .i64 s, .int .i64 p] w fun e w' => e = .returned (.bool (SetM.has s p)) ∧ w = w' := by
  by_cases h1 : p < 0
  · have HB := Lib.hid (SetM.has_neg s p h1)
    go_enter Try.func14, Try.ntmps14
    go_wp2
    go_ret
    exact ⟨ret_bool HB.out.symm, rfl⟩
  by_cases h2 : 8 ≤ p
  · have HB := Lib.hid (SetM.has_big s p h2)
    go_enter Try.func14, Try.ntmps14
    go_wp2
    go_ret
    exact ⟨ret_bool HB.out.symm, rfl⟩
  rcases eight (p := p) (by omega) (by omega) with rfl | rfl | rfl | rfl | rfl | rfl | rfl | rfl
  · have HB := Lib.hid (show (bits .and .i64 s 1 == 1) = SetM.has s 0 from by have := shr_has s 0 (by decide); simpa using this)
    clear h1 h2
    go_enter Try.func14, Try.ntmps14
    go_wp2
    go_ret
    exact ⟨ret_bool HB.out, rfl⟩
  · have HB := Lib.hid (show (bits .and .i64 (s / 2) 1 == 1) = SetM.has s 1 from shr_has s 1 (by decide))
    clear h1 h2
    go_enter Try.func14, Try.ntmps14
    go_wp2
    go_ret
    exact ⟨ret_bool HB.out, rfl⟩
  · have HB := Lib.hid (show (bits .and .i64 (s / 4) 1 == 1) = SetM.has s 2 from shr_has s 2 (by decide))
    clear h1 h2
    go_enter Try.func14, Try.ntmps14
    go_wp2
    go_ret
    exact ⟨ret_bool HB.out, rfl⟩
  · have HB := Lib.hid (show (bits .and .i64 (s / 8) 1 == 1) = SetM.has s 3 from shr_has s 3 (by decide))
    clear h1 h2
    go_enter Try.func14, Try.ntmps14
    go_wp2
    go_ret
    exact ⟨ret_bool HB.out, rfl⟩
  · have HB := Lib.hid (show (bits .and .i64 (s / 16) 1 == 1) = SetM.has s 4 from shr_has s 4 (by decide))
    clear h1 h2
    go_enter Try.func14, Try.ntmps14
    go_wp2
    go_ret
    exact ⟨ret_bool HB.out, rfl⟩
  · have HB := Lib.hid (show (bits .and .i64 (s / 32) 1 == 1) = SetM.has s 5 from shr_has s 5 (by decide))
    clear h1 h2
    go_enter Try.func14, Try.ntmps14
    go_wp2
    go_ret
    exact ⟨ret_bool HB.out, rfl⟩
  · have HB := Lib.hid (show (bits .and .i64 (s / 64) 1 == 1) = SetM.has s 6 from shr_has s 6 (by decide))
    clear h1 h2
    go_enter Try.func14, Try.ntmps14
    go_wp2
    go_ret
    exact ⟨ret_bool HB.out, rfl⟩
  · have HB := Lib.hid (show (bits .and .i64 (s / 128) 1 == 1) = SetM.has s 7 from shr_has s 7 (by decide))
    clear h1 h2
    go_enter Try.func14, Try.ntmps14
    go_wp2
    go_ret
    exact ⟨ret_bool HB.out, rfl⟩
theorem info3 : (Try.prog.info? 3).map (fun i => (i.zero, i.size, i.bytes)) = some (some (.int .i64 0), 1, 8) := by kernel_rfl
/-- A slice of its own memory (laid since B) that holds the integers l; nil just where there are none. -/
def Owns (B : Nat) (W : World) (v : Value) (l : List Int) : Prop := W.ownsRow B 3 1 v l.length (l.map (Value.int .i64)) ∧ (v = .slice none 0 0 ↔ l = [])
/-- What a function hands back that gathers integers. -/
def Gave (w : World) (l : List Int) (e : Ending) (W' : World) : Prop := ∃ v, e = .returned v ∧ Owns w.heap.size W' v l ∧ Below w.heap.size w W'
theorem row_blk {W : World} {n₀ e size k : Nat} {v : Value} {xs : List Value} (h : W.ownsRow n₀ e size v k xs) (j : Nat) (hj : v.ownBlock = some j) : n₀ ≤ j := by
  rcases h.2 with ⟨rfl, _⟩ | ⟨g, cap, cur, rfl, hb, _, _⟩
  · simp [Value.ownBlock] at hj
  · obtain rfl : g = j := by simpa [Value.ownBlock] using hj
    exact hb
theorem map_snoc (pre : List Int) (x : Int) : pre.map (Value.int .i64) ++ [.int .i64 x] = (pre ++ [x]).map (Value.int .i64) := by simp
theorem add_zero (x : Addr) : x.add 0 = x := by cases x; simp [Addr.add]
/-- A slice's address under which the integers l lie. -/
def Row (w : World) (a : Option Addr) (l : List Int) : Prop := l.length ≤ maxLen ∧ (l = [] ∨ ∃ x, a = some x ∧ ∀ i, i < l.length → w.cell? (x.add i) = some (.int .i64 (l.getD i 0)))
theorem Row.cells {w : World} {a : Option Addr} {l : List Int} (h : Row w a l) {k : Nat} (hk : k < l.length) : ∃ x, a = some x ∧ ∀ i, i < l.length → w.cell? (x.add i) = some (.int .i64 (l.getD i 0)) := by
  rcases h.2 with rfl | h
  · simp at hk
  · exact h
theorem Row.below {w w' : World} {a : Option Addr} {l : List Int} (h : Row w a l) (hb : Below w.heap.size w w') : Row w' a l := by
  refine ⟨h.1, ?_⟩
  rcases h.2 with h | ⟨x, hx, hc⟩
  · exact .inl h
  · exact .inr ⟨x, hx, fun i hi => (hb.cell (World.block_lt_of_cell? w _ (hc i hi))).trans (hc i hi)⟩
/-- What a function has gathered reads as a row. -/
theorem row_of {B : Nat} {w : World} {v : Value} {l : List Int} (h : Owns B w v l) : ∃ a cap, v = .slice a l.length cap ∧ Row w a l := by
  rcases h.1.2 with ⟨rfl, h0⟩ | ⟨g, cap, cur, rfl, h1, h2, h3, h4, h5, h6⟩
  · have : l = [] := h.2.1 rfl
    subst this
    exact ⟨none, 0, rfl, Nat.zero_le _, .inl rfl⟩
  · refine ⟨_, cap, rfl, by omega, .inr ⟨_, rfl, fun i hi => ?_⟩⟩
    exact h.1.cells (g := g) rfl i (.int .i64 (l.getD i 0)) (by rw [List.getElem?_map, List.getD_eq_getElem?_getD, List.getElem?_eq_getElem hi]; rfl)
theorem take_succ (l : List Int) (k : Nat) (h : k < l.length) : l.take (k + 1) = l.take k ++ [l.getD k 0] := by
  rw [List.take_succ_eq_append_getElem h, List.getD_eq_getElem?_getD, List.getElem?_eq_getElem h]; rfl
theorem or_small (m b : Nat) (hm : m < 256) (hb : b < 256) : bits .or .i64 (m : Int) (b : Int) = ((m ||| b : Nat) : Int) :=
  (bits_nat .i64 8 (by decide) (fun n h0 h1 => by rw [IntKind.wrap_i64]; omega) m b hm hb).2
theorem ref_lt (l : List Int) (k : Nat) (h : k ≤ 8) : SetM.refOf l k < 256 := Nat.lt_of_lt_of_le (SetM.refOf_lt l k) (Nat.pow_le_pow_right (n := 2) (by decide) h : 2 ^ k ≤ 2 ^ 8)
theorem ref_or (l : List Int) (k : Nat) (h : k < 8) (hm : (k : Int) ∈ l) : bits .or .i64 (SetM.refOf l k : Nat) ((2 ^ k : Nat) : Int) = (SetM.refOf l (k + 1) : Nat) := by
  rw [or_small _ _ (ref_lt l k (by omega)) (show 2 ^ k < 2 ^ 8 from Nat.pow_lt_pow_right (by decide) h), SetM.refOf_hit l k hm]
theorem wrap_pow (k : Nat) (h : k < 8) : wrap64 ((2 : Int) ^ k) = ((2 ^ k : Nat) : Int) := by
  have h3 : k = 0 ∨ k = 1 ∨ k = 2 ∨ k = 3 ∨ k = 4 ∨ k = 5 ∨ k = 6 ∨ k = 7 := by omega
  rcases h3 with rfl | rfl | rfl | rfl | rfl | rfl | rfl | rfl <;> decide +kernel
theorem ref_or2 (l : List Int) (k : Nat) (h : k < 8) (hm : (k : Int) ∈ l) : bits .or .i64 (SetM.refOf l k : Nat) (wrap64 ((2 : Int) ^ k)) = (SetM.refOf l (k + 1) : Nat) := by
  rw [wrap_pow k h, ref_or l k h hm]
/-- The first place of a number that is there. -/
theorem first_at {l : List Int} {p : Int} (h : p ∈ l) : ∃ j, j < l.length ∧ l.getD j 0 = p ∧ ∀ i, i < j → l.getD i 0 ≠ p := by
  induction l with
  | nil => simp at h
  | cons y l ih =>
    by_cases e : y = p
    · exact ⟨0, by simp, by simpa using e, fun i hi => by omega⟩
    · obtain ⟨j, h1, h2, h3⟩ := ih (by simpa [Ne.symm e] using h)
      refine ⟨j + 1, by simp; omega, by simpa using h2, fun i hi => ?_⟩
      cases i with
      | zero => simpa using e
      | succ i => simpa using h3 i (by omega)
theorem rof_any (a : Option Addr) (cap : Nat) (l : List Int) (w : World) (h : Row w a l) :
    Calls Try.prog 51 #[.slice a l.length cap] w fun e w' => e = .returned (.int .i64 (SetM.of l : Nat)) ∧ w = w' := by
  have h1 := h.1
  unfold maxLen at h1
  have Hr := Lib.hid h
  clear h
  go_enter Try.func51, Try.ntmps51
  go_wp2
  go_loop [3, 4] (fun t p => ∃ k : Nat, k ≤ 8 ∧ p = .int .i64 k ∧ t = .int .i64 (SetM.refOf l k : Nat)) (fun _ p => 8 - (intOf p).toNat)
  case atStart => exact ⟨0, Nat.zero_le _, rfl, rfl⟩
  case round =>
    obtain ⟨k, hk, rfl, rfl⟩ := hrel
    by_cases hlt : k < 8
    · by_cases hm : (k : Int) ∈ l
      · have HS := Lib.hid (ref_or2 l k hlt hm)
        obtain ⟨j, hj, hjk, hjn⟩ := first_at hm
        have Hj := Lib.hid hjk
        have Hn := Lib.hid hjn
        clear hjk hjn hm
        go_wp2
        go_loop [3, 5] (fun t i => ∃ m : Nat, m ≤ j ∧ i = .int .i64 m ∧ t = .int .i64 (SetM.refOf l k : Nat)) (fun _ i => j - (intOf i).toNat)
        case atStart => exact ⟨0, Nat.zero_le _, rfl, rfl⟩
        case round =>
          obtain ⟨m, hm, rfl, rfl⟩ := hrel
          have hml : m < l.length := by omega
          obtain ⟨x, rfl, hc⟩ := Hr.out.cells hml
          have hcell := hc m hml
          clear hc
          by_cases hmj : m < j
          · have hne := Hn.out m hmj
            generalize l.getD m 0 = y at hne hcell
            go_wp2
            go_round
            case rel => exact ⟨m + 1, by omega, by go_num, rfl⟩
            case measure => simp [intOf]; omega
          · obtain rfl : m = j := by omega
            rw [Hj.out] at hcell
            go_wp2
            go_round
            case rel => exact ⟨k + 1, by omega, by go_num, by rw [HS.out]⟩
            case measure => simp [intOf]; omega
      · have HS := Lib.hid (SetM.refOf_miss l k hm)
        have Hm : Hid (∀ i, i < l.length → l.getD i 0 ≠ (k : Int)) := Lib.hid (fun i hi e => hm (by rw [← e, List.getD_eq_getElem?_getD, List.getElem?_eq_getElem hi]; exact List.getElem_mem hi))
        clear hm
        go_wp2
        go_loop [3, 5] (fun t i => ∃ m : Nat, m ≤ l.length ∧ i = .int .i64 m ∧ t = .int .i64 (SetM.refOf l k : Nat)) (fun _ i => l.length - (intOf i).toNat)
        case atStart => exact ⟨0, Nat.zero_le _, rfl, rfl⟩
        case round =>
          obtain ⟨m, hm, rfl, rfl⟩ := hrel
          by_cases hml : m < l.length
          · obtain ⟨x, rfl, hc⟩ := Hr.out.cells hml
            have hcell := hc m hml
            clear hc
            have hne := Hm.out m hml
            generalize l.getD m 0 = y at hne hcell
            go_wp2
            go_round
            case rel => exact ⟨m + 1, by omega, by go_num, rfl⟩
            case measure => simp [intOf]; omega
          · go_wp2
            go_round
            case rel => exact ⟨k + 1, by omega, by go_num, by rw [HS.out]⟩
            case measure => simp [intOf]; omega
    · have HS := Lib.hid (SetM.refOf_eq l)
      obtain rfl : k = 8 := by omega
      go_wp2
      go_ret
      exact ⟨ret_int (by rw [HS.out]), rfl⟩
theorem list_snoc {B : Nat} {l : List Int} {x : Int} {v' : Value} {w1 : World} (h : w1.ownsRow B 3 1 v' (l.length + 1) (l.map (Value.int .i64) ++ [.int .i64 x])) (hn : ¬ v' = .slice none 0 0) : Owns B w1 v' (l ++ [x]) := by
  refine ⟨?_, ?_⟩
  · rw [List.length_append, ← map_snoc]; exact h
  · simp [hn]
theorem rlist_any (s : Int) (w : World) : Calls Try.prog 13 #[.int .i64 s] w (Gave w (SetM.list s)) := by
  obtain ⟨i0, hi, hz0, hz1, hz2⟩ := info_parts info3
  go_enter Try.func13, Try.ntmps13
  go_wp2
  go_loopw [3, 4] (fun v p wr => ∃ k : Nat, k ≤ 8 ∧ p = .int .i64 k ∧ Owns w.heap.size wr v (SetM.upto s k) ∧ Below w.heap.size w wr) (fun _ p _ => 8 - (intOf p).toNat)
  case atStart => exact ⟨0, Nat.zero_le _, rfl, ⟨World.ownsRow_nil _ _ _ _, by simp [SetM.upto_zero]⟩, Below.refl _ _⟩
  case round =>
    obtain ⟨k, hk, rfl, ⟨hown, hnil⟩, hbel⟩ := hrel
    have hB := hbel.size
    have Hn := Lib.hid hnil
    clear hnil
    by_cases hlt : k < 8
    · have hul := SetM.upto_len s k
      by_cases hh : SetM.has s k = true
      · have Hs := Lib.hid (SetM.upto_hit s k hh)
        go_wp2_with (first
          | (go_at_call 14; refine (rhas_any _ _ _).mono ?_; rintro e w' ⟨rfl, rfl⟩; rw [hh])
          | (at_builtin; refine wpList_append_own _ rfl _ _ 22 rfl w.heap.size 3 i0 (.int .i64 0) 1 8 Try.underlying22 hi hz0 hz1 hz2 rfl (by decide) _ _ _ rfl (hown.alloc _) ⟨wr.heap.size, 0, none⟩ 1 1 [.int .i64 (k : Int)] rfl rfl ?c1 ?c2 ?c3 ?c4 ?c5 ?_))
        case c1 =>
          intro j u hj
          match j, hj with
          | 0, hj => simp at hj; subst hj; simp [Addr.add]
        case c2 => intro u hu; simp at hu; subst hu; rfl
        case c3 => unfold maxLen; omega
        case c4 => omega
        case c5 => simp; omega
        intro v' w1 hown' hgrow hnil'
        have hbel' : Below w.heap.size w w1 := (hbel.alloc (by omega) _).grown hgrow (by simp; omega) fun j hj => row_blk hown j hj
        have Hown := Lib.hid (list_snoc hown' hnil')
        clear hown' hgrow hown hnil'
        go_wp2
        go_roundw
        case rel => exact ⟨k + 1, by omega, by go_num, by rw [Hs.out]; exact Hown.out, hbel'⟩
        case measure => simp [intOf]; omega
      · have hh' : SetM.has s k = false := by simpa using hh
        have Hs := Lib.hid (SetM.upto_miss s k hh')
        clear hh
        go_wp2_with (go_at_call 14; refine (rhas_any _ _ _).mono ?_; rintro e w' ⟨rfl, rfl⟩; rw [hh'])
        go_roundw
        case rel => exact ⟨k + 1, by omega, by go_num, by rw [Hs.out]; exact ⟨hown, Hn.out⟩, hbel⟩
        case measure => simp [intOf]; omega
    · obtain rfl : k = 8 := by omega
      go_wp2
      go_ret
      exact ⟨_, rfl, ⟨hown, Hn.out⟩, hbel⟩
theorem rwith_any (s p : Int) (w : World) : Calls Try.prog 23 #[.int .i64 s, .int .i64 p] w fun e w' => e = .returned (.int .i64 (SetM.withN s p : Nat)) ∧ Below w.heap.size w w' := by
  obtain ⟨i0, hi, hz0, hz1, hz2⟩ := info_parts info3
  have hl8 := SetM.list_len s
  have HS := Lib.hid (SetM.of_with s p)
  go_enter Try.func23, Try.ntmps23
  go_wp2_with fail
  refine (rlist_any _ _).mono ?_
  rintro e w1 ⟨v, rfl, ⟨hown, hnil⟩, hbel⟩
  have hB := hbel.size
  clear hnil
  go_wp2_with (at_builtin; refine wpList_append_own _ rfl _ _ 22 rfl w.heap.size 3 i0 (.int .i64 0) 1 8 Try.underlying22 hi hz0 hz1 hz2 rfl (by decide) _ _ _ rfl (hown.alloc _) ⟨w1.heap.size, 0, none⟩ 1 1 [.int .i64 p] rfl rfl ?c1 ?c2 ?c3 ?c4 ?c5 ?_)
  case c1 =>
    intro j u hj
    match j, hj with
    | 0, hj => simp at hj; subst hj; simp [Addr.add]
  case c2 => intro u hu; simp at hu; subst hu; rfl
  case c3 => unfold maxLen; omega
  case c4 => omega
  case c5 => simp; omega
  intro v' w2 hown' hgrow hnil'
  have hbel' : Below w.heap.size w w2 := (hbel.alloc (by omega) _).grown hgrow (by simp; omega) fun j hj => row_blk hown j hj
  obtain ⟨L, hL⟩ : ∃ L, SetM.list s ++ [p] = L := ⟨_, rfl⟩
  have hrow' := list_snoc hown' hnil'
  rw [hL] at HS hrow'
  obtain ⟨a, cap, rfl, hrow⟩ := row_of hrow'
  have Hrow := Lib.hid hrow
  clear hown' hgrow hown hnil' hrow hrow' hL
  go_wp2_with (go_at_call 51; refine (rof_any _ _ L _ Hrow.out).mono ?_; rintro e w' ⟨rfl, rfl⟩)
  go_ret
  exact ⟨ret_int (by rw [HS.out]), hbel'⟩
/-- A number as one from 0 to n - 1. -/
theorem place_any (v n : Int) (w : World) (h : 0 < n) (h' : n ≤ 9223372036854775807) :
    Calls Try.prog 22 #[.int .i64 v, .int .i64 n] w fun e w' => e = .returned (.int .i64 (v % n)) ∧ w = w' := by
  have hm := Int.emod_nonneg v (show n ≠ 0 by omega)
  have hm2 := Int.emod_lt_of_pos v h
  have ht : 0 ≤ v.tmod n ∧ v % n = v.tmod n ∨ v.tmod n < 0 ∧ v % n = v.tmod n + n := by
    have h1 := Int.tmod_eq_emod (a := v) (b := n)
    split at h1 <;> omega
  have hb : -9223372036854775808 ≤ v.tmod n ∧ v.tmod n ≤ 9223372036854775807 := by omega
  obtain ⟨hb1, hb2⟩ := hb
  have hn0 : n ≠ 0 := by omega
  rcases ht with ⟨ht, he⟩ | ⟨ht, he⟩
  · have He := Lib.hid he
    clear he hm hm2
    go_enter Try.func22, Try.ntmps22
    go_wp2
    go_ret
    exact ⟨ret_int (by rw [He.out]), rfl⟩
  · have He := Lib.hid he
    clear he hm hm2
    go_enter Try.func22, Try.ntmps22
    go_wp2
    go_ret
    exact ⟨ret_int (by rw [He.out]), rfl⟩
/-! numbers of a row -/
open Tab in
/-- A row of numbers, at a place; 0 behind the end. -/
def num (L : List Int) (i : Int) (n : Int) : Int := L.getD i.toNat 0 % n
open Tab in
theorem at_any (a : Option Addr) (cap : Nat) (L : List Int) (i : Int) (w : World) (h : IntRow w ⟨a, cap⟩ L) (h0 : 0 ≤ i) :
    Calls Try.prog 54 #[.slice a L.length cap, .int .i64 i] w fun e w' => e = .returned (.int .i64 (L.getD i.toNat 0)) ∧ w = w' := by
  have hl := h.len
  unfold maxLen at hl
  obtain ⟨k, rfl⟩ := Int.eq_ofNat_of_zero_le h0
  by_cases hk : k < L.length
  · have hv := List.getElem?_eq_getElem hk
    generalize hu : L[k] = u at hv
    obtain ⟨x, hx, hc⟩ := IntRow.at h hv
    obtain rfl : a = some x := hx
    have HE : Hid (u = L.getD ((k : Int)).toNat 0) := Lib.hid (by rw [Int.toNat_natCast, List.getD_eq_getElem?_getD, hv]; rfl)
    generalize L.getD ((k : Int)).toNat 0 = r at HE ⊢
    clear hv hu h
    go_enter Try.func54, Try.ntmps54
    go_wp2
    go_ret
    exact ⟨ret_int HE.out, rfl⟩
  · have HE : Hid (0 = L.getD ((k : Int)).toNat 0) := Lib.hid (by rw [Int.toNat_natCast, List.getD_eq_getElem?_getD, List.getElem?_eq_none (by omega)]; rfl)
    generalize L.getD ((k : Int)).toNat 0 = r at HE ⊢
    clear h
    go_enter Try.func54, Try.ntmps54
    go_wp2
    go_ret
    exact ⟨ret_int HE.out, rfl⟩
open Tab in
theorem from_any (a : Option Addr) (cap : Nat) (L : List Int) (i n : Int) (w : World) (h : IntRow w ⟨a, cap⟩ L) (h0 : 0 ≤ i) (hn : 0 < n) (hn' : n ≤ 1000) :
    Calls Try.prog 27 #[.slice a L.length cap, .int .i64 i, .int .i64 n] w fun e w' => e = .returned (.int .i64 (num L i n)) ∧ w = w' := by
  have H := Lib.hid h
  clear h
  go_enter Try.func27, Try.ntmps27
  go_wp2_with fail
  refine (at_any a cap L i w H.out h0).mono ?_
  rintro e w' ⟨rfl, rfl⟩
  have HE : Hid (L.getD i.toNat 0 % n = num L i n) := Lib.hid rfl
  generalize L.getD i.toNat 0 = v at HE ⊢
  go_wp2_with fail
  refine (place_any v n _ hn (by omega)).mono ?_
  rintro e w' ⟨rfl, rfl⟩
  go_wp2
  go_ret
  exact ⟨ret_int HE.out, rfl⟩
theorem num_range (L : List Int) (i n : Int) (hn : 0 < n) : 0 ≤ num L i n ∧ num L i n < n := ⟨Int.emod_nonneg _ (by omega), Int.emod_lt_of_pos _ hn⟩
end RefS
namespace Gath
open Go Go.RowKit
open Tab
section
variable {α : Type} {enc : α → List Value} {size : Nat} {B : Nat} {w w' : World} {e : TypeId} {v : Value} {l : List α}
/-- A slice of its own memory (laid since B) that holds the elements l. -/
def Owns (enc : α → List Value) (size B : Nat) (w : World) (e : TypeId) (v : Value) (l : List α) : Prop := w.ownsRow B e size v l.length (l.flatMap enc)
theorem Owns.nil : Owns enc size B w e (.slice none 0 0) ([] : List α) := World.ownsRow_nil _ _ _ _
theorem Owns.snoc {x : α} {v' : Value} (h : w.ownsRow B e size v' (l.length + 1) (l.flatMap enc ++ enc x)) : Owns enc size B w e v' (l ++ [x]) := by
  unfold Owns
  rw [List.length_append, List.flatMap_append, List.flatMap_cons, List.flatMap_nil, List.append_nil]
  exact h
theorem Owns.below (h : Owns enc size B w e v l) (hb : Below w.heap.size w w') : Owns enc size B w' e v l :=
  World.ownsRow.kept (row := none) h ⟨hb.os, hb.tape, hb.output, hb.size, fun j hj _ => hb.block j hj⟩ (by cases hv : v.ownBlock <;> simp)
theorem Owns.mono {B' : Nat} (h : Owns enc size B w e v l) (hb : B' ≤ B) : Owns enc size B' w e v l := by
  refine ⟨h.1, ?_⟩
  rcases h.2 with hn | ⟨g, cap, cur, rfl, h1, h2⟩
  · exact .inl hn
  · exact .inr ⟨g, cap, cur, rfl, by omega, h2⟩
theorem Owns.blk (h : Owns enc size B w e v l) (j : Nat) (hj : v.ownBlock = some j) : B ≤ j := by
  rcases h.2 with ⟨rfl, _⟩ | ⟨g, cap, cur, rfl, hb, _, _⟩
  · simp [Value.ownBlock] at hj
  · obtain rfl : g = j := by simpa [Value.ownBlock] using hj
    exact hb
theorem flat_at (henc : ∀ x, (enc x).length = size) : ∀ (l : List α) (i : Nat) (x : α), l[i]? = some x → ((l.flatMap enc).drop (i * size)).take size = enc x
  | [], i, x, h => by simp at h
  | y :: l, 0, x, h => by
    obtain rfl : y = x := by simpa using h
    rw [Nat.zero_mul, List.drop_zero, List.flatMap_cons, ← henc y, List.take_left]
  | y :: l, i + 1, x, h => by
    rw [List.flatMap_cons, Nat.add_mul, Nat.one_mul, Nat.add_comm, ← henc y, List.drop_append, List.drop_of_length_le (by omega), List.nil_append, Nat.add_sub_cancel_left, henc y]
    exact flat_at henc l i x (by simpa using h)
/-- What was gathered reads as a row. -/
theorem Owns.row (h : Owns enc size B w e v l) (henc : ∀ x, (enc x).length = size) : ∃ s : Sl, v = s.val l.length ∧ RowOf size enc w s l := by
  rcases h.2 with ⟨rfl, h0⟩ | ⟨g, cap, cur, rfl, h1, h2, h3, h4, h5, h6⟩
  · have : l = [] := List.eq_nil_of_length_eq_zero h0
    subst this
    exact ⟨⟨none, 0⟩, rfl, RowOf.nil w⟩
  · refine ⟨⟨some ⟨g, 0, none⟩, cap⟩, rfl, .inr ⟨_, rfl, h3, h4, fun i x hx j u hu => ?_⟩⟩
    have hi : i < l.length := (List.getElem?_eq_some_iff.1 hx).1
    have hj : j < size := by rw [← henc x]; exact (List.getElem?_eq_some_iff.1 hu).1
    rw [Addr.add_mid, Nat.zero_add, Addr.add_mid, cell_of_row _ _ _ _ _ _ h2]
    have hf := flat_at henc l i x hx
    rw [← h6] at hf
    rw [← hf] at hu
    have hlt : i * size + j < l.length * size := by
      have : (i + 1) * size ≤ l.length * size := Nat.mul_le_mul_right _ hi
      rw [Nat.add_mul, Nat.one_mul] at this
      omega
    rw [List.getElem?_take, if_pos hj, List.getElem?_drop, List.getElem?_take, if_pos hlt, Array.getElem?_toList] at hu
    exact hu
end
end Gath
namespace May
open Go.ChangeShapes Go.WideShapes Go.ChangeAt Go.RowKit
open Tab
def listMay {α : Type} (m : Int) (f : α → Bool) (l : List α) : Bool := decide ((l.length : Int) ≤ m) && l.all f
def tabMay (T : Tab) : Bool :=
  listMay 8 Ph.may T.phases && (listMay 4 groupMay T.groups && (allIn 255 T.conflict && (listMay 16 Det.may T.dets && (listMay 4 Rl.may T.rails && (listMay 4 Bs.may T.buses &&
    (allIn 9999 [T.extend, T.budget, T.start, T.revert, T.least] && (allIn 2 T.flash && allIn 2147483647 [T.window, T.share])))))))
/-- Ints that lie in a block, as a row. -/
theorem ints_in {w : World} {g : Nat} {cs : Array Value} {t : TypeId} {fr : Nat × Nat} (hg : w.heap[g]? = some (.cells cs t fr)) (o n : Nat) (l : List Int) (h : (cs.toList.drop o).take n = l.map I) (hn : l.length = n) (hm : n ≤ maxLen) :
    IntRow w ⟨some ⟨g, o, none⟩, n⟩ l := by
  subst hn
  refine .inr ⟨_, rfl, Nat.le_refl _, hm, fun i v hv j u hu => ?_⟩
  cases j with
  | zero =>
    obtain rfl := Option.some.inj hu
    rw [Nat.mul_one, add_two, Nat.add_zero, Addr.add_mid]
    exact range_of hg o _ _ h i _ (by simp [hv])
  | succ j => cases hu
/-- Phases that lie at a block's head, as a row. -/
theorem phases_in {w : World} {g : Nat} {cs : Array Value} {t : TypeId} {fr : Nat × Nat} {T : Tab} {h : Hd} (hg : w.heap[g]? = some (.cells cs t fr)) (C : CellsOk T h cs) (hn : T.phases.length = 8) :
    RowOf 13 Ph.cells w ⟨some ⟨g, 0, none⟩, 8⟩ T.phases := by
  refine .inr ⟨_, rfl, by rw [hn]; exact Nat.le_refl _, (show 8 ≤ maxLen by decide), fun i v hv j u hu => ?_⟩
  rw [add_two, Addr.add_mid, Nat.zero_add, Nat.mul_comm]
  exact range_of hg (13 * i) 13 _ (C.phase i v hv) j u hu
/-- What a walk over a boxed table holds on to. -/
structure St (w : World) (N : Nat) (cs : Array Value) (h : Hd) (T : Tab) (W : World) : Prop where
  bel : Below w.heap.size w W
  blk : W.heap[N]? = some (.cells cs 32 (0, 0))
  tab : IsTab W h T
  le : w.heap.size ≤ N
theorem St.step {w W W' : World} {N : Nat} {cs : Array Value} {h : Hd} {T : Tab} (k : St w N cs h T W) (hb : Below W.heap.size W W') : St w N cs h T W' :=
  ⟨chain k.bel hb, by rw [hb.block N (Array.getElem?_eq_some_iff.1 k.blk).1]; exact k.blk, k.tab.below hb, k.le⟩
theorem St.cell {w W : World} {N : Nat} {cs : Array Value} {h : Hd} {T : Tab} (k : St w N cs h T W) {o : Nat} {v : Value} (hv : cs[o]? = some v) : W.cell? ⟨N, o, none⟩ = some v := by
  rw [cell_of_row _ _ _ _ _ _ k.blk]; exact hv
theorem St.box {w : World} {cs : Array Value} {h : Hd} {T : Tab} (k : IsTab w h T) : St w w.heap.size cs h T (w.alloc (.cells cs 32)) :=
  ⟨(Below.refl _ _).alloc (Nat.le_refl _) _, heap_alloc_new _ _, k.below ((Below.refl _ _).alloc (Nat.le_refl _) _), Nat.le_refl _⟩
end May
namespace May
open Go.ChangeShapes Go.WideShapes Go.ChangeAt Go.RowKit
open Tab
def GAll (l : List Gr) : Prop := l.all (fun v => groupMay v.data) = true
theorem GAll.step {l : List Gr} {k : Nat} {v : Gr} (h : l[k]? = some v) (hk : GAll (l.take k)) (hv : groupMay v.data = true) : GAll (l.take (k + 1)) := all_step (f := fun v : Gr => groupMay v.data) h hk hv
theorem infoT : (Try.prog.info? 32).map (·.size) = some 131 := by kernel_rfl
end May
namespace Copy
open Go Go.RowKit
open Tab
section
variable {P : Program}
end
/-! ### a list's elements as one row -/
section
variable {α : Type} {n : Nat} {enc : α → List Value}
end
end Copy
namespace Clone
open Go.ChangeShapes Go.WideShapes Go.ChangeAt Go.RowKit
open Tab Copy
open May (chain infoP infoG infoD infoR infoB)
end Clone
namespace Owned
open Go Go.RowKit
open Tab Copy
structure Blk where
  at_ : Nat
  cells : List Value
  type : TypeId
def Own (B : Nat) (w : World) (L : List Blk) : Prop := (L.map Blk.at_).Nodup ∧ ∀ x ∈ L, B ≤ x.at_ ∧ w.heap[x.at_]? = some (.cells x.cells.toArray x.type (0, 0))
variable {B : Nat} {w w' : World} {L M : List Blk} {x : Blk}
theorem Own.nil : Own B w [] := ⟨by simp, fun x h => by simp at h⟩
theorem Own.get (h : Own B w L) (hx : x ∈ L) : w.heap[x.at_]? = some (.cells x.cells.toArray x.type (0, 0)) := (h.2 x hx).2
theorem Own.base (h : Own B w L) (hx : x ∈ L) : B ≤ x.at_ := (h.2 x hx).1
theorem Own.lt (h : Own B w L) (hx : x ∈ L) : x.at_ < w.heap.size := (Array.getElem?_eq_some_iff.1 (h.get hx)).1
theorem Own.step (h : Own B w L) (hb : Below w.heap.size w w') : Own B w' L := ⟨h.1, fun x hx => ⟨h.base hx, by rw [hb.block _ (h.lt hx)]; exact h.get hx⟩⟩
theorem Own.same (h : Own B w L) (hs : w'.heap = w.heap) : Own B w' L := ⟨h.1, fun x hx => ⟨h.base hx, by rw [hs]; exact h.get hx⟩⟩
/-- A new block. -/
theorem Own.add (h : Own B w L) (hb : Below w.heap.size w w') {g : Nat} {cs : List Value} {t : TypeId} (hg : w'.heap[g]? = some (.cells cs.toArray t (0, 0))) (hn : w.heap.size ≤ g) (hB : B ≤ w.heap.size) : Own B w' (⟨g, cs, t⟩ :: L) := by
  refine ⟨List.nodup_cons.2 ⟨fun hm => ?_, h.1⟩, fun y hy => ?_⟩
  · obtain ⟨y, hy, e⟩ := List.mem_map.1 hm
    have := h.lt hy
    have e' : y.at_ = g := e
    omega
  · rcases List.mem_cons.1 hy with rfl | hy
    · exact ⟨Nat.le_trans hB hn, hg⟩
    · exact (h.step hb).2 y hy
/-- The first block is written. -/
theorem Own.write (h : Own B w (x :: L)) {cs : List Value} (hg : w'.heap[x.at_]? = some (.cells cs.toArray x.type (0, 0))) (ho : ∀ j, j ≠ x.at_ → w'.heap[j]? = w.heap[j]?) : Own B w' (⟨x.at_, cs, x.type⟩ :: L) := by
  have hx := (List.nodup_cons.1 h.1).1
  refine ⟨List.nodup_cons.2 ⟨hx, (List.nodup_cons.1 h.1).2⟩, fun y hy => ?_⟩
  rcases List.mem_cons.1 hy with rfl | hy
  · exact ⟨(h.base (x := x) (List.mem_cons_self ..) : B ≤ x.at_), hg⟩
  · have hne : y.at_ ≠ x.at_ := fun e => hx (List.mem_map.2 ⟨y, hy, e⟩)
    exact ⟨h.base (List.mem_cons_of_mem _ hy), by rw [ho _ hne]; exact h.get (List.mem_cons_of_mem _ hy)⟩
theorem Own.cell (h : Own B w L) (hx : x ∈ L) (i : Nat) : w.cell? ⟨x.at_, i, none⟩ = x.cells[i]? := by
  rw [cell_of_row _ _ _ _ _ _ (h.get hx)]; simp
theorem Own.frozen (h : Own B w L) (hx : x ∈ L) (i : Nat) : w.frozen? ⟨x.at_, i, none⟩ = false := frozen_of_row _ _ _ _ _ (h.get hx)
/-- What is below B stays as it is when one's own is written. -/
theorem below_write {a : World} (hb : Below B a w) {g i : Nat} (hg : B ≤ g) (v : Value) : Below B a (w.setCell ⟨g, i, none⟩ v) := hb.setCell (p := ⟨g, i, none⟩) hg v
end Owned
namespace Clone
open Go.ChangeShapes Go.WideShapes Go.ChangeAt Go.RowKit
open Tab Copy Owned
open May (chain infoP infoG infoD infoR infoB infoT)
/-- A group whose rows are blocks of their own. -/
structure NG where
  r0 : List Int
  r1 : List Int
  b0 : Nat
  b1 : Nat
def NG.gr (g : NG) : Gr := ⟨g.r0, g.r1, ⟨some ⟨g.b0, 0, none⟩, g.r0.length⟩, ⟨some ⟨g.b1, 0, none⟩, g.r1.length⟩⟩
def NG.blks (g : NG) : List Blk := [⟨g.b0, g.r0.flatMap (fun n => [I n]), 3⟩, ⟨g.b1, g.r1.flatMap (fun n => [I n]), 3⟩]
abbrev at0 (g n : Nat) : Sl := ⟨some ⟨g, 0, none⟩, n⟩
/-- Where a clone's parts lie. -/
def own (T : Tab) (ns : List NG) (G D R S : Nat) : List Blk :=
  ⟨G, (ns.map NG.gr).flatMap Gr.cells, 92⟩ :: ⟨D, T.dets.flatMap Det.cells, 73⟩ :: ⟨R, T.rails.flatMap Rl.cells, 76⟩ :: ⟨S, T.buses.flatMap Bs.cells, 79⟩ :: ns.flatMap NG.blks
def hd (T : Tab) (G D R S : Nat) : Hd := ⟨at0 G T.groups.length, at0 D T.dets.length, at0 R T.rails.length, at0 S T.buses.length⟩
section
variable {T : Tab} {ns : List NG} {G D R S : Nat}
end
/-! ### a table's cells, with a list moved -/
structure Eights (T : Tab) : Prop where
  p : T.phases.length = 8
  c : T.conflict.length = 8
  f : T.flash.length = 8
theorem Eights.tab {T : Tab} (k : Eights T) (h : Hd) (w : World) : CellsOk T h (T.cells h).toArray := by
  have h0 : IsTab w ⟨⟨none, 0⟩, ⟨none, 0⟩, ⟨none, 0⟩, ⟨none, 0⟩⟩ { T with groups := [], dets := [], rails := [], buses := [] } :=
    ⟨k.p, k.c, k.f, ⟨[], rfl, RowOf.nil w, fun g hg => by simp at hg⟩, RowOf.nil w, RowOf.nil w, RowOf.nil w⟩
  have := cells_ok h0
  obtain ⟨p0, p1, p2, p3, p4, p5, p6, p7, hp⟩ := eight k.p
  obtain ⟨c0, c1, c2, c3, c4, c5, c6, c7, hc⟩ := eight k.c
  obtain ⟨f0, f1, f2, f3, f4, f5, f6, f7, hf⟩ := eight k.f
  clear k
  obtain ⟨phases, groups, conflict, dets, rails, buses, extend, budget, start, revert, least, flash, window, share⟩ := T
  simp only at hp hc hf
  subst hp hc hf
  clear this h0
  constructor
  all_goals try rfl
  case one => simp [Tab.cells, Ph.cells, Value.oneCell']
  intro i p hp
  match i, hp with
  | 0, hp | 1, hp | 2, hp | 3, hp | 4, hp | 5, hp | 6, hp | 7, hp =>
    obtain rfl := Option.some.inj hp
    rfl
  | i + 8, hp => cases hp
/-- The zero table. -/
def zPh : Ph := ⟨false, 0, 0, 0, 0, 0, 0, 0, 0, 0, 0, false, false⟩
def zTab : Tab := ⟨List.replicate 8 zPh, [], List.replicate 8 0, [], [], [], 0, 0, 0, 0, 0, List.replicate 8 0, 0, 0⟩
def zHd : Hd := ⟨⟨none, 0⟩, ⟨none, 0⟩, ⟨none, 0⟩, ⟨none, 0⟩⟩
end Clone
namespace Clone
open Go.ChangeShapes Go.WideShapes Go.ChangeAt Go.RowKit
open Tab Copy Owned
open May (chain infoP infoG infoD infoR infoB infoT take_succ')
/-- The phases of the region that fills one group. -/
def D5 (w : World) (B M : Nat) (L0 L1 L2 L3 : List Blk) (q : Nat) (w' : World) : Prop :=
  Below B w w' ∧ match q with
    | 0 => Owned.Own B w' L0 ∧ w'.heap.size = M + 1
    | 1 => Owned.Own B w' L1 ∧ w'.heap.size = M + 1 + 1
    | 2 => Owned.Own B w' L2 ∧ w'.heap.size = M + 1 + 1 + 1
    | _ => Owned.Own B w' L3
theorem D5.get {w w' : World} {B M q : Nat} {L0 L1 L2 L3 : List Blk} {x : Blk} (h : D5 w B M L0 L1 L2 L3 q w') (h0 : x ∈ L0) (h1 : x ∈ L1) (h2 : x ∈ L2) (h3 : x ∈ L3) : w'.heap[x.at_]? = some (.cells x.cells.toArray x.type (0, 0)) := by
  match q, h with
  | 0, ⟨_, h, _⟩ => exact h.get h0
  | 1, ⟨_, h, _⟩ => exact h.get h1
  | 2, ⟨_, h, _⟩ => exact h.get h2
  | _ + 3, ⟨_, h⟩ => exact h.get h3
end Clone
namespace OnS
open Go.ChangeShapes Go.WideShapes Go.ChangeAt Go.RowKit
open Tab Gath RefS
open May (St phases_in infoP)
/-- A row, as set.Of's contract wants it. -/
theorem row_of_int {w : World} {a : Option Addr} {cap : Nat} {L : List Int} (h : IntRow w ⟨a, cap⟩ L) : RefS.Row w a L := by
  have hl := h.len
  refine ⟨by omega, ?_⟩
  by_cases h0 : L = []
  · exact .inl h0
  · have hp : 0 < L.length := List.length_pos_iff.2 h0
    obtain ⟨x, hx, _⟩ := IntRow.at h (List.getElem?_eq_getElem hp)
    refine .inr ⟨x, hx, fun i hi => ?_⟩
    obtain ⟨y, hy, hc⟩ := IntRow.at h (List.getElem?_eq_getElem hi)
    obtain rfl : x = y := Option.some.inj (hx.symm.trans hy)
    rw [hc, List.getD_eq_getElem?_getD, List.getElem?_eq_getElem hi]
    rfl
def onTo : Nat → List Ph → List Int
  | _, [] => []
  | i, p :: l => (if p.on then [(i : Int)] else []) ++ onTo (i + 1) l
theorem onTo_append : ∀ (i : Nat) (l m : List Ph), onTo i (l ++ m) = onTo i l ++ onTo (i + l.length) m
  | i, [], m => rfl
  | i, p :: l, m => by
    rw [List.cons_append, onTo, onTo, onTo_append (i + 1) l m, List.append_assoc, List.length_cons, show i + 1 + l.length = i + (l.length + 1) by omega]
theorem on_step {l : List Ph} {q : Nat} {p : Ph} (h : l[q]? = some p) : onTo 0 (l.take (q + 1)) = onTo 0 (l.take q) ++ (if p.on then [(q : Int)] else []) := by
  have hi : q < l.length := (List.getElem?_eq_some_iff.1 h).1
  rw [PlaceM.take_succ h, onTo_append, List.length_take, Nat.min_eq_left (by omega), Nat.zero_add]
  simp [onTo]
theorem on_len : ∀ (i : Nat) (l : List Ph), (onTo i l).length ≤ l.length
  | i, [] => Nat.le_refl _
  | i, p :: l => by
    rw [onTo, List.length_append, List.length_cons]
    have := on_len (i + 1) l
    split <;> simp <;> omega
/-- The phases that are On, and their set. -/
def onL (T : Tab) : List Int := onTo 0 T.phases
def onS (T : Tab) : Nat := SetM.of (onL T)
abbrev OwnsI (B : Nat) (w : World) (v : Value) (l : List Int) : Prop := Owns (fun n => [I n]) 1 B w 3 v l
theorem on_any (T : Tab) (h : Hd) (w : World) (ht : IsTab w h T) :
    Calls Try.prog 21 #[.agg (T.cells h).toArray] w fun e w' => e = .returned (.int .i64 (onS T : Nat)) ∧ Below w.heap.size w w' := by
  have C := Lib.hid (cells_ok ht)
  generalize (T.cells h).toArray = cs at C ⊢
  have hsz := C.out.size
  have L8 := Lib.hid ht.ph
  have S0 := Lib.hid (St.box (cs := cs) ht)
  obtain ⟨i0, hi, hz0, hz1, hz2⟩ := info_parts info3
  have RS : Hid ((onS T : Nat) = SetM.of (onTo 0 T.phases)) := Lib.hid rfl
  generalize onS T = r at RS ⊢
  clear ht
  go_enter Try.func21, Try.ntmps21
  go_upto_region 1 with fail
  generalize w.alloc (.cells cs 32) = w1 at S0 ⊢
  clear hsz
  go_wp2_with fail
  go_loopw [3, 4] (fun v g wr => ∃ q : Nat, q ≤ 8 ∧ g = .int .i64 q ∧ OwnsI w1.heap.size wr v (onTo 0 (T.phases.take q)) ∧ Below w1.heap.size w1 wr) (fun _ g _ => 8 - (intOf g).toNat)
  case atStart => exact ⟨0, by omega, rfl, Owns.nil, Below.refl _ _⟩
  case round =>
    obtain ⟨q, hq, rfl, hown, hbel⟩ := hrel
    have HO := Lib.hid hown
    have HB := Lib.hid hbel
    clear hown hbel
    have S1 := Lib.hid (S0.out.step HB.out)
    by_cases hlt : q < 8
    · have hv : T.phases[q]? = some (T.phases[q]'(by rw [L8.out]; exact hlt)) := List.getElem?_eq_getElem _
      generalize T.phases[q]'(by rw [L8.out]; exact hlt) = u at hv
      obtain ⟨x, hx, hc⟩ := (phases_in S1.out.blk C.out L8.out).at hv
      obtain rfl := Option.some.inj hx
      have c0 : wr.cell? ⟨w.heap.size, q * 13, none⟩ = some (.bool u.on) := by
        have := hc 0 _ rfl
        rwa [Addr.add_mid, Nat.zero_add, Tab.add_zero] at this
      have HS := Lib.hid (on_step hv)
      have hlen : (onTo 0 (T.phases.take q)).length ≤ 8 := by have := on_len 0 (T.phases.take q); rw [List.length_take] at this; omega
      have hsz := HB.out.size
      clear hv hc hx
      generalize onTo 0 (T.phases.take q) = P1 at HO HS hlen
      cases hon : u.on
      · rw [hon] at c0 HS
        have HS2 : Hid (onTo 0 (T.phases.take (q + 1)) = P1) := Lib.hid (by rw [HS.out]; simp)
        go_wp2
        go_roundw
        case rel => exact ⟨q + 1, by omega, by go_num, by rw [HS2.out]; exact HO.out, HB.out⟩
        case measure => simp [intOf]; omega
      · rw [hon] at c0 HS
        have HS2 : Hid (onTo 0 (T.phases.take (q + 1)) = P1 ++ [(q : Int)]) := Lib.hid (by rw [HS.out]; simp)
        have hown2 : wr.ownsRow w1.heap.size 3 1 u3 P1.length (P1.flatMap (fun n => [I n])) := HO.out
        clear HO
        go_wp2_with (at_builtin; refine wpList_append_own _ rfl _ _ 22 rfl w1.heap.size 3 i0 (.int .i64 0) 1 8 Try.underlying22 hi hz0 hz1 hz2 rfl (by decide) _ _ _ rfl (hown2.alloc _) ⟨wr.heap.size, 0, none⟩ 1 1 [.int .i64 (q : Int)] rfl rfl ?c1 ?c2 ?c3 ?c4 ?c5 ?_)
        case c2 => rfl
        case c3 => unfold maxLen; omega
        case c4 => omega
        case c5 => omega
        intro v' w2 hown' hgrow hnil'
        have HB2 : Hid (Below w1.heap.size w1 w2) := Lib.hid ((HB.out.alloc hsz _).grown hgrow (by simp; omega) fun m hm => (show OwnsI w1.heap.size wr u3 P1 from hown2).blk m hm)
        have HO2 : Hid (OwnsI w1.heap.size w2 v' (P1 ++ [(q : Int)])) := Lib.hid (Owns.snoc hown')
        clear hown' hgrow hown2 hnil'
        go_wp2
        go_roundw
        case rel => exact ⟨q + 1, by omega, by go_num, by rw [HS2.out]; exact HO2.out, HB2.out⟩
        case measure => simp [intOf]; omega
    · have HE : Hid (onTo 0 (T.phases.take q) = onTo 0 T.phases) := Lib.hid (by rw [List.take_of_length_le (by rw [L8.out]; omega)])
      obtain ⟨⟨sa, sc⟩, hs, hrow⟩ := HO.out.row (enc := fun n => [I n]) (fun _ => rfl)
      rw [HE.out] at hs hrow
      have HR := Lib.hid (row_of_int hrow)
      have HF : Hid (Below w.heap.size w wr) := Lib.hid (S1.out.bel)
      clear hrow HE
      subst hs
      generalize onTo 0 T.phases = P2 at RS HR ⊢
      show Code.wp _ _ _ _ _
      rw [show (Sl.val ⟨sa, sc⟩ P2.length) = .slice sa P2.length sc from rfl]
      go_wp2_with fail
      refine (rof_any sa sc P2 _ HR.out).mono ?_
      rintro e w' ⟨rfl, rfl⟩
      rw [← RS.out]
      go_wp2
      go_ret
      exact ⟨rfl, HF.out⟩
end OnS
namespace ChkM
open Go Tab PlaceM PlanM OnS May
/-- The phases that are On, in order; a phase's own numbers. -/
def ons (T : Tab) : List Int := SetM.list (onS T : Nat)
def phAt (T : Tab) (p : Int) : Ph := T.phases.getD p.toNat default
def cfAt (T : Tab) (p : Int) : Int := T.conflict.getD p.toNat 0
def flAt (T : Tab) (p : Int) : Int := T.flash.getD p.toNat 0
def phBad (u : Ph) : Bool := decide (u.min < 1) || (decide (u.yellow < 10) || (decide (u.max < u.min) || (decide (u.top < u.max) || ((decide (u.step < 1) && decide (u.max < u.top)) || (((u.walk == 0) != (u.blinks == 0)) || (u.recall == 3 && u.walk == 0))))))
def allOn (T : Tab) (s : Int) : Bool := bits .andNot .i64 s (onS T : Nat) == 0
def clashC (T : Tab) (s : Int) : Bool := (SetM.list s).any fun p => bits .and .i64 (cfAt T p) s != 0
def abreast (T : Tab) (s : Int) : Bool := (SetM.list s).all fun p => (SetM.list (SetM.withoutN s p : Nat)).all fun q => beside T p q
def yel (T : Tab) (p : Int) : Bool := flAt T p == 2
def yellows (T : Tab) : Nat := SetM.of ((ons T).filter (yel T))
def confBad (T : Tab) (p : Int) : Bool := SetM.has (cfAt T p) p || (ons T).any fun q => (SetM.has (cfAt T p) q != SetM.has (cfAt T q) p) || (SetM.has (cfAt T p) q && beside T p q)
def flashBad (T : Tab) (p : Int) : Bool := flAt T p == 0 || (flAt T p == 2 && bits .and .i64 (cfAt T p) (yellows T : Nat) != 0)
def gtF (a b : Nat) : Bool := decide (Go.Proofs.Fl.key b < Go.Proofs.Fl.key a)
def detBad (T : Tab) (d : Det) : Bool := gtF d.off d.on || !(phAt T d.phase).on
def timesBad (r : Rl) : Bool := ((r.hold == 0) != (r.clear == 0)) || (decide (r.green < 1) || (decide (r.stay < 1) || ((decide (0 < r.most) && decide (r.most < r.stay)) || decide (r.limit ≤ r.delay))))
def or4 (r : Rl) : Int := bits .or .i64 (bits .or .i64 (bits .or .i64 r.bars r.clear) r.dwell) r.exit
def railBad (T : Tab) (r : Rl) : Bool := !allOn T (or4 r) || (r.dwell == 0 || (r.exit == 0 || (bits .and .i64 r.dwell r.bars != 0 || (clashC T r.clear || (clashC T r.dwell || (clashC T r.exit || (!abreast T r.exit || timesBad r)))))))
def busBad (T : Tab) (b : Bs) : Bool := b.set == 0 || (!allOn T b.set || decide (b.lock < 1))
/-! ### rule 3 -/
/-- Where package plan finds a number. -/
def at0 (o : Option Spt) : Nat × Nat × Nat := match o with | some x => (x.g, x.k, x.i) | none => (0, 0, 0)
def repRow (T : Tab) (g k : Nat) (l : List Int) : Bool := (List.range l.length).any fun i => at0 (where_ T (l.getD i 0)) != (g, k, i)
def repeats (T : Tab) (g : Nat) : Bool := repRow T g 0 (rowsAt T g).1 || repRow T g 1 (rowsAt T g).2
def groupBad (T : Tab) (g : Nat) : Bool := membS T g == 0 || (!allOn T (membS T g : Nat) || repeats T g)
def placed (T : Tab) : Nat → Nat
  | 0 => 0
  | g + 1 => placed T g ||| membS T g
def ringsC (T : Tab) : Option Int :=
  if T.groups.length = 0 then some 0 else
  match (List.range T.groups.length).find? (groupBad T) with
  | some g => some (g : Int)
  | none => if bits .andNot .i64 (onS T : Nat) (placed T T.groups.length : Nat) = 0 then none else some 0
/-! ### all rules -/
/-- The first rule that applies. -/
def firstF : List (Int × Option Int) → Int × Int
  | [] => (0, 0)
  | (c, some p) :: _ => (c, p)
  | (_, none) :: l => firstF l
def idx {α : Type} (f : α → Bool) (l : List α) : Option Int := (l.findIdx? f).map Int.ofNat
def mayF (T : Tab) : Option Int := if tabMay T then none else some 0
def rulesC (T : Tab) : List (Int × Option Int) := [(4, mayF T), (7, (ons T).find? fun p => phBad (phAt T p)), (8, ringsC T), (9, (ons T).find? (confBad T)), (10, idx (detBad T) T.dets), (11, idx (railBad T) T.rails), (12, idx (busBad T) T.buses), (13, (ons T).find? (flashBad T))]
/-- The Fault of package check, and the document's. -/
def chkC (T : Tab) : Int × Int := firstF (rulesC T)
end ChkM
namespace Phx
open Go.ChangeShapes Go.WideShapes Go.ChangeAt Go.RowKit
open Tab
open May (infoP)
theorem flat_take : ∀ {l : List Ph} {q : Nat} {u : Ph}, l[q]? = some u → ((l.flatMap Ph.cells).drop (q * 13)).take 13 = u.cells
  | [], q, u, h => by simp at h
  | p :: l, 0, u, h => by
    obtain rfl : p = u := by simpa using h
    rw [Nat.zero_mul, List.drop_zero, List.flatMap_cons]
    exact List.take_left' rfl
  | p :: l, q + 1, u, h => by
    rw [List.flatMap_cons, Nat.add_mul, Nat.one_mul, Nat.add_comm, List.drop_append, List.drop_of_length_le (by simp [Ph.cells]), List.nil_append, show 13 + q * 13 - p.cells.length = q * 13 by simp [Ph.cells]]
    exact flat_take (by simpa using h)
end Phx
namespace RefC
open Go.ChangeShapes Go.WideShapes Go.ChangeAt Go.RowKit
def cap (n : Int) : Int := if n < 0 then 0 else if 2147483647 < n then 2147483647 else n
theorem cap_lo (n : Int) : 0 ≤ cap n := by unfold cap; split <;> (try split) <;> omega
theorem cap_hi (n : Int) : cap n ≤ 2147483647 := by unfold cap; split <;> (try split) <;> omega
theorem cap_neg {n : Int} (h : n < 0) : cap n = 0 := by unfold cap; rw [if_pos h]
theorem cap_big {n : Int} (h : 2147483647 < n) : cap n = 2147483647 := by unfold cap; rw [if_neg (by omega), if_pos h]
theorem cap_in {n : Int} (h : 0 ≤ n) (h' : n ≤ 2147483647) : cap n = n := by unfold cap; rw [if_neg (by omega), if_neg (by omega)]
theorem mul_bd {a b : Int} (ha : 0 ≤ a) (ha' : a ≤ 2147483647) (hb : 0 ≤ b) (hb' : b ≤ 2147483647) : 0 ≤ a * b ∧ a * b ≤ 2147483647 * 2147483647 := by
  refine ⟨Int.mul_nonneg ha hb, ?_⟩
  exact Int.mul_le_mul ha' hb' hb (by omega)
theorem ret_int {k : IntKind} {a b : Int} (h : a = b) : Ending.returned (.int k a) = .returned (.int k b) := by rw [h]
def add (a b : Int) : Int := cap (cap a + cap b)
def mul (a b : Int) : Int := cap (cap a * cap b)
theorem cut_cap (n : Int) (w : World) : Calls Try.prog 82 #[.int .i64 n, .int .i64 0, .int .i64 2147483647] w fun e w' => e = .returned (.int .i64 (cap n)) ∧ w = w' := by
  by_cases h1 : n < 0
  · go_enter Try.func82, Try.ntmps82
    go_wp2
    go_ret
    exact ⟨ret_int (cap_neg h1).symm, rfl⟩
  by_cases h2 : 2147483647 < n
  · go_enter Try.func82, Try.ntmps82
    go_wp2
    go_ret
    exact ⟨ret_int (cap_big h2).symm, rfl⟩
  · go_enter Try.func82, Try.ntmps82
    go_wp2
    go_ret
    exact ⟨ret_int (cap_in (by omega) (by omega)).symm, rfl⟩
theorem rcap_any (n : Int) (w : World) : Calls Try.prog 74 #[.int .i64 n] w fun e w' => e = .returned (.int .i64 (cap n)) ∧ w = w' := by
  go_enter Try.func74, Try.ntmps74
  go_wp2_with (go_at_call 82; refine (cut_cap _ _).mono ?_; rintro e w' ⟨rfl, rfl⟩)
  go_ret
  exact ⟨rfl, rfl⟩
theorem radd_any (a b : Int) (w : World) : Calls Try.prog 87 #[.int .i64 a, .int .i64 b] w fun e w' => e = .returned (.int .i64 (add a b)) ∧ w = w' := by
  have b1 := cap_lo a
  have b2 := cap_hi a
  have b3 := cap_lo b
  have b4 := cap_hi b
  go_enter Try.func87, Try.ntmps87
  go_wp2_with (go_at_call 74; refine (rcap_any _ _).mono ?_; rintro e w' ⟨rfl, rfl⟩)
  go_ret
  exact ⟨rfl, rfl⟩
theorem rmul_any (a b : Int) (w : World) : Calls Try.prog 56 #[.int .i64 a, .int .i64 b] w fun e w' => e = .returned (.int .i64 (mul a b)) ∧ w = w' := by
  have b1 := cap_lo a
  have b2 := cap_hi a
  have b3 := cap_lo b
  have b4 := cap_hi b
  obtain ⟨c1, c2⟩ := mul_bd b1 b2 b3 b4
  go_enter Try.func56, Try.ntmps56
  go_wp2_with (go_at_call 74; refine (rcap_any _ _).mono ?_; rintro e w' ⟨rfl, rfl⟩)
  go_ret
  exact ⟨rfl, rfl⟩
/-- A slice of integers as a list: nil, or a row of cells. -/
def IsRow (w : World) (a : Option Addr) (len : Nat) (zs : List Int) : Prop :=
  len ≤ zs.length ∧ len ≤ maxLen ∧ (len = 0 ∨ ∃ x, a = some x ∧ ∀ i, i < zs.length → w.cell? (x.add i) = some (.int .i64 (zs.getD i 0)))
def sums (l : List Int) : Int := l.foldl add 0
theorem sums_snoc (l : List Int) (x : Int) : sums (l ++ [x]) = add (sums l) x := by unfold sums; rw [List.foldl_append]; rfl
theorem take_succ_getD (zs : List Int) (k : Nat) (h : k < zs.length) : zs.take (k + 1) = zs.take k ++ [zs.getD k 0] := by
  rw [List.take_succ_eq_append_getElem h, List.getD_eq_getElem?_getD, List.getElem?_eq_getElem h]; rfl
theorem sums_take (zs : List Int) (k : Nat) (h : k < zs.length) : sums (zs.take (k + 1)) = add (sums (zs.take k)) (zs.getD k 0) := by
  rw [take_succ_getD zs k h, sums_snoc]
theorem rsum_any (a : Option Addr) (len cap : Nat) (zs : List Int) (w : World) (h : IsRow w a len zs) :
    Calls Try.prog 73 #[.slice a len cap] w fun e w' => e = .returned (.int .i64 (sums (zs.take len))) ∧ w = w' := by
  obtain ⟨h1, h2, h3⟩ := h
  unfold maxLen at h2
  go_enter Try.func73, Try.ntmps73
  go_wp2
  go_loop [3, 4] (fun t i => ∃ k : Nat, k ≤ len ∧ i = .int .i64 k ∧ t = .int .i64 (sums (zs.take k))) (fun _ i => len - (intOf i).toNat)
  case atStart => exact ⟨0, Nat.zero_le _, rfl, rfl⟩
  case round =>
    obtain ⟨k, hk, rfl, rfl⟩ := hrel
    by_cases hlt : k < len
    · have HS := Lib.hid (sums_take zs k (by omega))
      obtain ⟨x, rfl, hc⟩ : ∃ x, a = some x ∧ ∀ i, i < zs.length → w.cell? (x.add i) = some (.int .i64 (zs.getD i 0)) := by
        rcases h3 with h3 | h3
        · omega
        · exact h3
      have hcell := hc k (by omega)
      clear hc h3
      go_wp2_with (go_at_call 87; refine (radd_any _ _ _).mono ?_; rintro e w' ⟨rfl, rfl⟩)
      go_round
      case rel => exact ⟨k + 1, by omega, by go_num, by rw [HS.out, List.getD_eq_getElem?_getD]⟩
      case measure => simp [intOf]; omega
    · go_wp2
      go_ret
      have : k = len := by omega
      subst this
      exact ⟨rfl, rfl⟩
open Tab in
theorem is_row {w : World} {a : Option Addr} {cap : Nat} {L : List Int} (h : IntRow w ⟨a, cap⟩ L) : IsRow w a L.length L := by
  have hl := h.len
  refine ⟨Nat.le_refl _, by omega, ?_⟩
  by_cases h0 : L.length = 0
  · exact .inl h0
  · have h1 : L[0]? = some L[0] := List.getElem?_eq_getElem (by omega)
    obtain ⟨x, hx, _⟩ := IntRow.at h h1
    refine .inr ⟨x, hx, fun i hi => ?_⟩
    obtain ⟨y, hy, hc⟩ := IntRow.at h (List.getElem?_eq_getElem hi)
    obtain rfl : x = y := Option.some.inj (hx.symm.trans hy)
    rw [hc, List.getD_eq_getElem?_getD, List.getElem?_eq_getElem hi]
    rfl
open Tab in
theorem rsum_row (a : Option Addr) (cap : Nat) (L : List Int) (w : World) (h : IntRow w ⟨a, cap⟩ L) :
    Calls Try.prog 73 #[.slice a L.length cap] w fun e w' => e = .returned (.int .i64 (sums L)) ∧ w = w' := by
  have := rsum_any a L.length cap L w (is_row h)
  rwa [List.take_length] at this
open Tab in
theorem sum_row (a : Option Addr) (cap : Nat) (L : List Int) (w : World) (h : IntRow w ⟨a, cap⟩ L) :
    Calls Try.prog 53 #[.slice a L.length cap] w fun e w' => e = .returned (.int .i64 (sums L)) ∧ w = w' := by
  have H := Lib.hid (rsum_row a cap L w h)
  clear h
  generalize sums L = s at H ⊢
  go_enter Try.func53, Try.ntmps53
  go_wp2_with fail
  refine H.out.mono ?_
  rintro e w' ⟨rfl, rfl⟩
  go_wp2
  go_ret
  exact ⟨rfl, rfl⟩
/-- The greatest, 0 of none. -/
def mosts (l : List Int) : Int := l.foldl max 0
theorem mosts_take (l : List Int) (k : Nat) (h : k < l.length) : mosts (l.take (k + 1)) = max (mosts (l.take k)) (l.getD k 0) := by
  rw [take_succ_getD l k h]; unfold mosts; rw [List.foldl_append]; rfl
open Tab in
theorem most_row (a : Option Addr) (cap : Nat) (L : List Int) (w : World) (h : IntRow w ⟨a, cap⟩ L) :
    Calls Try.prog 76 #[.slice a L.length cap] w fun e w' => e = .returned (.int .i64 (mosts L)) ∧ w = w' := by
  obtain ⟨h1, h2, h3⟩ := is_row h
  unfold maxLen at h2
  clear h
  go_enter Try.func76, Try.ntmps76
  go_wp2
  go_loop [3, 4] (fun t i => ∃ k : Nat, k ≤ L.length ∧ i = .int .i64 k ∧ t = .int .i64 (mosts (L.take k))) (fun _ i => L.length - (intOf i).toNat)
  case atStart => exact ⟨0, Nat.zero_le _, rfl, rfl⟩
  case round =>
    obtain ⟨k, hk, rfl, rfl⟩ := hrel
    by_cases hlt : k < L.length
    · have HS := Lib.hid (mosts_take L k (by omega))
      obtain ⟨x, rfl, hc⟩ : ∃ x, a = some x ∧ ∀ i, i < L.length → w.cell? (x.add i) = some (.int .i64 (L.getD i 0)) := by
        rcases h3 with h3 | h3
        · omega
        · exact h3
      have hcell := hc k (by omega)
      clear hc h3
      generalize L.getD k 0 = v at HS hcell
      generalize mosts (L.take k) = m at HS ⊢
      by_cases hmv : m < v
      · have HM : Hid (max m v = v) := Lib.hid (by omega)
        go_wp2
        go_round
        case rel => exact ⟨k + 1, by omega, by go_num, by rw [HS.out]; first | rw [HM.out] | rfl⟩
        case measure => simp [intOf]; omega
      · have HM : Hid (max m v = m) := Lib.hid (by omega)
        go_wp2
        go_round
        case rel => exact ⟨k + 1, by omega, by go_num, by rw [HS.out]; first | rw [HM.out] | rfl⟩
        case measure => simp [intOf]; omega
    · go_wp2
      go_ret
      have : k = L.length := by omega
      subst this
      exact ⟨by rw [List.take_length]; rfl, rfl⟩
end RefC
end Go.Proofs.Ytjgpljnbeolapaa
