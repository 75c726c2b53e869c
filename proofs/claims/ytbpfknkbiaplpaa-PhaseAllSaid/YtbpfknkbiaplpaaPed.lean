/- Package ped: contracts of Step, Cut, Over, and of the document's answers: at any phase, any state. -/
import Derived.Test.YtbpfknkbiaplpaaRows
import Derived.Test.YtbpfknkbiaplpaaRow
import Derived.Test.YtbpfknkbiaplpaaBlk
import Derived.Test.YtbpfknkbiaplpaaCnt
import Derived.Test.YtbpfknkbiaplpaaTabArg
import Derived.Test.YtbpfknkbiaplpaaMayC
import Derived.Test.YtbpfknkbiaplpaaSameB
import Derived.Test.YtbpfknkbiaplpaaQL
import Derived.Test.YtbpfknkbiaplpaaQT
import Derived.Deep.Cut
import Derived.StillTailTactics
namespace Go.Proofs.Ytbpfknkbiaplpaa.Ped
open Go.ChangeShapes Go.WideShapes Go.ChangeAt Go.RowKit
open Tab Flat TabArg QL
open May (infoP)
set_option linter.unusedVariables false
set_option linter.unusedSimpArgs false
set_option maxRecDepth 100000
structure Ft where
  st : Int
  tm : Int
deriving DecidableEq
def Ft.cells (s : Ft) : List Value := [I s.st, I s.tm]
theorem flFt : flat Try.prog 4 25 = some [3, 3] := by kernel_rfl
theorem flFt5 : flat Try.prog 5 25 = some [3, 3] := by kernel_rfl
section
variable {H : Type} {enc : TypeId × Value → H} {P : Program} {w : World} {base : Nat} {spare : Nat → Bool} {held : Bool}
theorem ft_el : ∀ {cs : List Value}, All2 (Tr enc Try.prog w base spare held) [3, 3] cs → ∃ d : Ft, cs = d.cells
  | [_, _], ⟨h0, h1, _⟩ => by
    obtain ⟨v0, rfl⟩ := tr_int Try.underlying3 h0
    obtain ⟨v1, rfl⟩ := tr_int Try.underlying3 h1
    exact ⟨⟨v0, v1⟩, rfl⟩
end
theorem ft_eqs (a b c d : Int) : Same.Eqs 25 [I a, I b] [I c, I d] (decide (a = c ∧ b = d)) := by
  have := Same.eqs_of (p := a = c ∧ b = d) flFt5 (by decide) (by kernel_rfl) [(I a, I c), (I b, I d)] ⟨Same.lint _ _, Same.lint _ _, trivial⟩ rfl rfl (by simp)
  simpa using this
theorem guardFt : Try.prog.eqGuardType Try.prog.depth 25 = false := by kernel_rfl
theorem infoFt : (Try.prog.info? 25).map (·.size) = some 2 := by kernel_rfl
theorem ret_bool {a b : Bool} (h : a = b) : Ending.returned (.bool a) = .returned (.bool b) := by rw [h]
/-- One tick of a signal: k ticks of walk, l of blinks. -/
def ft (k l s t : Int) (b : Bool) : Ft :=
  if s = 1 then (if k ≤ t then ⟨2, 1⟩ else ⟨1, Cnt.more t⟩)
  else if s = 2 then (if l ≤ t then ⟨0, 0⟩ else ⟨2, Cnt.more t⟩)
  else if b = true ∧ 0 < k then ⟨1, 1⟩ else ⟨0, 0⟩
def cu (s t : Int) : Ft := if s = 1 then ⟨2, 1⟩ else ⟨s, t⟩
def ov (s t n : Int) : Bool := if s = 1 then false else if s = 2 then decide (n ≤ t) else true
theorem oneMore_any (n : Int) (w : World) : Calls Try.prog 92 #[.int .i64 n] w fun e w' => e = .returned (.int .i64 (Cnt.more n)) ∧ w = w' := by
  by_cases h1 : n < 0
  · have HE : Hid (Cnt.more n = 1) := Lib.hid (by unfold Cnt.more Cnt.ct; rw [if_pos h1]; rfl)
    have em : max n 0 = 0 := by omega
    go_enter Try.func92, Try.ntmps92
    go_wp2
    go_ret
    exact ⟨Cnt.ret_int HE.out.symm, rfl⟩
  by_cases h2 : 9999 < n
  · have HE : Hid (Cnt.more n = 10000) := Lib.hid (by unfold Cnt.more Cnt.ct; rw [if_neg h1, if_pos h2]; rfl)
    go_enter Try.func92, Try.ntmps92
    go_wp2
    go_ret
    exact ⟨Cnt.ret_int HE.out.symm, rfl⟩
  · have HE : Hid (Cnt.more n = n + 1) := Lib.hid (by unfold Cnt.more Cnt.ct; rw [if_neg h1, if_neg h2])
    have e1 : IntKind.i64.wrap (n + 1) = n + 1 := by rw [IntKind.wrap_i64]; omega
    go_enter Try.func92, Try.ntmps92
    go_wp2
    go_ret
    exact ⟨Cnt.ret_int HE.out.symm, rfl⟩
set_option maxHeartbeats 4000000 in
theorem first_any (s : Int) (w : World) : Calls Try.prog 88 #[.int .i64 s] w fun e w' => e = .returned (.agg #[I s, I 1]) ∧ Below w.heap.size w w' := by
  have h0 := (Blk.Bks.nil w).alloc #[I 0, I 0] 25
  go_enter Try.func88, Try.ntmps88
  go_upto_region 1 with fail
  generalize World.alloc w _ = v at h0 ⊢
  generalize w.heap.size = gz at h0 ⊢
  have H0 := Lib.hid h0
  clear h0
  go_wp2_with (refine wpList_store_row rfl 25 _ _ rfl gz #[I s, I 1] rfl rfl 25 _ (H0.out.at 0 rfl) infoFt rfl (by simp [Value.oneCell']) ?_)
  have hput := H0.out.put 0 rfl #[I s, I 1]
  simp only [List.set_cons_succ, List.set_cons_zero] at hput
  generalize World.setRow v gz _ = v2 at hput ⊢
  have HG := Lib.hid hput
  clear hput
  go_wp2_with fail
  (try simp only [Exit.inBlock, Exit.then])
  refine bodyPost_ret (v := .agg #[I s, I 1]) ?_ rfl ⟨rfl, HG.out.bel⟩
  exact results_cell_row rfl _ _ gz 25 _ (0, 0) _ rfl (HG.out.at 0 rfl) Try.underlying25 rfl infoFt
set_option maxHeartbeats 4000000 in
theorem last_is {s t n a b c d : Int} (hs : (if n ≤ t then (⟨a, b⟩ : Ft) else ⟨s, Cnt.more t⟩) = ⟨c, d⟩) (w : World) : Calls Try.prog 87 #[.agg #[I s, I t], .int .i64 n, .agg #[I a, I b]] w fun e w' => e = .returned (.agg #[I c, I d]) ∧ Below w.heap.size w w' := by
  have h0 := (((Blk.Bks.nil w).alloc #[I s, I t] 25).alloc #[I a, I b] 25).alloc #[I 0, I 0] 25
  rw [show ((w.alloc (.cells #[I s, I t] 25)).alloc (.cells #[I a, I b] 25)).heap.size = w.heap.size + 1 + 1 by simp, show (w.alloc (.cells #[I s, I t] 25)).heap.size = w.heap.size + 1 by simp] at h0
  by_cases h1 : n ≤ t
  · rw [if_pos h1] at hs
    injection hs with e1 e2
    subst e1 e2
    go_enter Try.func87, Try.ntmps87
    go_upto_region 1 with fail
    generalize World.alloc (World.alloc (World.alloc w _) _) _ = v at h0 ⊢
    generalize hgz : w.heap.size + 1 + 1 = gz at h0 ⊢
    generalize hgs : w.heap.size + 1 = gs at h0 ⊢
    generalize w.heap.size = gp at h0 ⊢
    clear hgz hgs
    have H0 := Lib.hid h0
    clear h0
    have c1 : v.cell? ⟨gp, 1, none⟩ = some (I t) := H0.out.cell 2 1 rfl rfl
    go_wp2_with (first | (refine Row.wpList_load_g 25 _ rfl (by first | rfl | (go_simp; done) | fail) ⟨gs, 0, none⟩ rfl [I a, I b] _ (by have := Row.lies_of_block (H0.out.at 1 rfl); simpa using this) Try.underlying25 rfl infoFt ?_) | (refine wpList_store_row rfl 25 _ _ rfl gz #[I a, I b] rfl rfl 25 _ (H0.out.at 0 rfl) infoFt rfl (by simp [Value.oneCell']) ?_))
    have hput := H0.out.put 0 rfl #[I a, I b]
    simp only [List.set_cons_succ, List.set_cons_zero] at hput
    generalize World.setRow v gz _ = v2 at hput ⊢
    have HG := Lib.hid hput
    clear hput
    go_wp2_with fail
    (try simp only [Exit.inBlock, Exit.then])
    refine bodyPost_ret (v := .agg #[I a, I b]) ?_ rfl ⟨rfl, HG.out.bel⟩
    exact results_cell_row rfl _ _ gz 25 _ (0, 0) _ rfl (HG.out.at 0 rfl) Try.underlying25 rfl infoFt
  · rw [if_neg h1] at hs
    injection hs with e1 e2
    subst e1
    have OM : Hid (∀ W, Calls Try.prog 92 #[.int .i64 t] W fun e w' => e = .returned (.int .i64 d) ∧ W = w') := Lib.hid (fun W => by rw [← e2]; exact oneMore_any t W)
    clear e2
    go_enter Try.func87, Try.ntmps87
    go_upto_region 1 with fail
    generalize World.alloc (World.alloc (World.alloc w _) _) _ = v at h0 ⊢
    generalize hgz : w.heap.size + 1 + 1 = gz at h0 ⊢
    generalize hgs : w.heap.size + 1 = gs at h0 ⊢
    generalize w.heap.size = gp at h0 ⊢
    clear hgz hgs
    have H0 := Lib.hid h0
    clear h0
    have c1 : v.cell? ⟨gp, 1, none⟩ = some (I t) := H0.out.cell 2 1 rfl rfl
    have f1 : v.frozen? ⟨gp, 1, none⟩ = false := H0.out.frozen 2 1 rfl
    go_upto_region 4 with (go_at_call 92; refine (OM.out _).mono ?_; rintro e w' ⟨rfl, rfl⟩)
    have hput := H0.out.set 2 1 rfl (I d)
    simp only [List.set_cons_succ, List.set_cons_zero, List.setIfInBounds_toArray] at hput
    generalize World.setCell _ _ _ = v2 at hput ⊢
    have HC := Lib.hid hput
    clear hput c1 f1
    go_wp2_with (first | (refine Row.wpList_load_g 25 _ rfl (by first | rfl | (go_simp; done) | fail) ⟨gp, 0, none⟩ rfl [I s, I d] _ (by have := Row.lies_of_block (HC.out.at 2 rfl); simpa using this) Try.underlying25 rfl infoFt ?_) | (refine wpList_store_row rfl 25 _ _ rfl gz #[I s, I d] rfl rfl 25 _ (HC.out.at 0 rfl) infoFt rfl (by simp [Value.oneCell']) ?_))
    have hput := HC.out.put 0 rfl #[I s, I d]
    simp only [List.set_cons_succ, List.set_cons_zero] at hput
    generalize World.setRow v2 gz _ = v3 at hput ⊢
    have HG := Lib.hid hput
    clear hput
    go_wp2_with fail
    (try simp only [Exit.inBlock, Exit.then])
    refine bodyPost_ret (v := .agg #[I s, I d]) ?_ rfl ⟨rfl, HG.out.bel⟩
    exact results_cell_row rfl _ _ gz 25 _ (0, 0) _ rfl (HG.out.at 0 rfl) Try.underlying25 rfl infoFt
set_option maxHeartbeats 8000000 in
theorem foot_is {p : Ph} {s t a b : Int} {g : Bool} (hs : ft p.walk p.blinks s t g = ⟨a, b⟩) (w : World) : Calls Try.prog 26 #[.agg p.cells.toArray, .agg #[I s, I t], .bool g] w fun e w' => e = .returned (.agg #[I a, I b]) ∧ Below w.heap.size w w' := by
  have h0 := (((Blk.Bks.nil w).alloc p.cells.toArray 23).alloc #[I s, I t] 25).alloc #[I 0, I 0] 25
  rw [show ((w.alloc (.cells p.cells.toArray 23)).alloc (.cells #[I s, I t] 25)).heap.size = w.heap.size + 1 + 1 by simp, show (w.alloc (.cells p.cells.toArray 23)).heap.size = w.heap.size + 1 by simp] at h0
  obtain ⟨k, hk⟩ : ∃ k, p.walk = k := ⟨_, rfl⟩
  obtain ⟨l, hl⟩ : ∃ l, p.blinks = l := ⟨_, rfl⟩
  rw [hk, hl] at hs
  by_cases h1 : s = 1
  · subst h1
    by_cases h2 : k ≤ t
    · unfold ft at hs
      rw [if_pos rfl, if_pos h2] at hs
      injection hs with e1 e2
      subst e1
      subst e2
      go_enter Try.func26, Try.ntmps26
      go_upto_region 1 with fail
      generalize World.alloc (World.alloc (World.alloc w _) _) _ = v at h0 ⊢
      generalize hgz : w.heap.size + 1 + 1 = gz at h0 ⊢
      generalize hgs : w.heap.size + 1 = gs at h0 ⊢
      generalize w.heap.size = gp at h0 ⊢
      clear hgz hgs
      have H0 := Lib.hid h0
      clear h0
      have k8 : v.cell? ⟨gp, 8, none⟩ = some (I p.walk) := H0.out.cell 2 8 rfl rfl
      have k9 : v.cell? ⟨gp, 9, none⟩ = some (I p.blinks) := H0.out.cell 2 9 rfl rfl
      rw [hk] at k8
      rw [hl] at k9
      have c0 : v.cell? ⟨gs, 0, none⟩ = some (I 1) := H0.out.cell 1 0 rfl rfl
      have c1 : v.cell? ⟨gs, 1, none⟩ = some (I t) := H0.out.cell 1 1 rfl rfl
      go_wp2_with (first | (refine wpList_store_row rfl 25 _ _ rfl gz #[I 2, I 1] rfl rfl 25 _ (H0.out.at 0 rfl) infoFt rfl (by simp [Value.oneCell']) ?_))
      have hput := H0.out.put 0 rfl #[I 2, I 1]
      simp only [List.set_cons_succ, List.set_cons_zero] at hput
      generalize World.setRow v gz _ = vz at hput ⊢
      have HG := Lib.hid hput
      clear hput
      go_wp2_with fail
      (try simp only [Exit.inBlock, Exit.then])
      refine bodyPost_ret (v := .agg #[I 2, I 1]) ?_ rfl ⟨rfl, HG.out.bel⟩
      exact results_cell_row rfl _ _ gz 25 _ (0, 0) _ rfl (HG.out.at 0 rfl) Try.underlying25 rfl infoFt
    · unfold ft at hs
      rw [if_pos rfl, if_neg h2] at hs
      injection hs with e1 e2
      subst e1
      have OM : Hid (∀ W, Calls Try.prog 25 #[.int .i64 t] W fun e w' => e = .returned (.int .i64 b) ∧ W = w') := Lib.hid (fun W => by rw [← e2]; exact Cnt.rmore_any t W)
      clear e2
      go_enter Try.func26, Try.ntmps26
      go_upto_region 1 with fail
      generalize World.alloc (World.alloc (World.alloc w _) _) _ = v at h0 ⊢
      generalize hgz : w.heap.size + 1 + 1 = gz at h0 ⊢
      generalize hgs : w.heap.size + 1 = gs at h0 ⊢
      generalize w.heap.size = gp at h0 ⊢
      clear hgz hgs
      have H0 := Lib.hid h0
      clear h0
      have k8 : v.cell? ⟨gp, 8, none⟩ = some (I p.walk) := H0.out.cell 2 8 rfl rfl
      have k9 : v.cell? ⟨gp, 9, none⟩ = some (I p.blinks) := H0.out.cell 2 9 rfl rfl
      rw [hk] at k8
      rw [hl] at k9
      have c0 : v.cell? ⟨gs, 0, none⟩ = some (I 1) := H0.out.cell 1 0 rfl rfl
      have c1 : v.cell? ⟨gs, 1, none⟩ = some (I t) := H0.out.cell 1 1 rfl rfl
      go_wp2_with (first | (go_at_call 25; refine (OM.out _).mono ?_; rintro e w' ⟨rfl, rfl⟩) | (refine wpList_store_row rfl 25 _ _ rfl gz #[I 1, I b] rfl rfl 25 _ (H0.out.at 0 rfl) infoFt rfl (by simp [Value.oneCell']) ?_))
      have hput := H0.out.put 0 rfl #[I 1, I b]
      simp only [List.set_cons_succ, List.set_cons_zero] at hput
      generalize World.setRow v gz _ = vz at hput ⊢
      have HG := Lib.hid hput
      clear hput
      go_wp2_with fail
      (try simp only [Exit.inBlock, Exit.then])
      refine bodyPost_ret (v := .agg #[I 1, I b]) ?_ rfl ⟨rfl, HG.out.bel⟩
      exact results_cell_row rfl _ _ gz 25 _ (0, 0) _ rfl (HG.out.at 0 rfl) Try.underlying25 rfl infoFt
  · by_cases h3 : s = 2
    · subst h3
      by_cases h2 : l ≤ t
      · unfold ft at hs
        rw [if_neg h1, if_pos rfl, if_pos h2] at hs
        injection hs with e1 e2
        subst e1
        subst e2
        go_enter Try.func26, Try.ntmps26
        go_upto_region 1 with fail
        generalize World.alloc (World.alloc (World.alloc w _) _) _ = v at h0 ⊢
        generalize hgz : w.heap.size + 1 + 1 = gz at h0 ⊢
        generalize hgs : w.heap.size + 1 = gs at h0 ⊢
        generalize w.heap.size = gp at h0 ⊢
        clear hgz hgs
        have H0 := Lib.hid h0
        clear h0
        have k8 : v.cell? ⟨gp, 8, none⟩ = some (I p.walk) := H0.out.cell 2 8 rfl rfl
        have k9 : v.cell? ⟨gp, 9, none⟩ = some (I p.blinks) := H0.out.cell 2 9 rfl rfl
        rw [hk] at k8
        rw [hl] at k9
        have c0 : v.cell? ⟨gs, 0, none⟩ = some (I 2) := H0.out.cell 1 0 rfl rfl
        have c1 : v.cell? ⟨gs, 1, none⟩ = some (I t) := H0.out.cell 1 1 rfl rfl
        go_wp2_with (first | (refine wpList_store_row rfl 25 _ _ rfl gz #[I 0, I 0] rfl rfl 25 _ (H0.out.at 0 rfl) infoFt rfl (by simp [Value.oneCell']) ?_))
        have hput := H0.out.put 0 rfl #[I 0, I 0]
        simp only [List.set_cons_succ, List.set_cons_zero] at hput
        generalize World.setRow v gz _ = vz at hput ⊢
        have HG := Lib.hid hput
        clear hput
        go_wp2_with fail
        (try simp only [Exit.inBlock, Exit.then])
        refine bodyPost_ret (v := .agg #[I 0, I 0]) ?_ rfl ⟨rfl, HG.out.bel⟩
        exact results_cell_row rfl _ _ gz 25 _ (0, 0) _ rfl (HG.out.at 0 rfl) Try.underlying25 rfl infoFt
      · unfold ft at hs
        rw [if_neg h1, if_pos rfl, if_neg h2] at hs
        injection hs with e1 e2
        subst e1
        have OM : Hid (∀ W, Calls Try.prog 25 #[.int .i64 t] W fun e w' => e = .returned (.int .i64 b) ∧ W = w') := Lib.hid (fun W => by rw [← e2]; exact Cnt.rmore_any t W)
        clear e2
        go_enter Try.func26, Try.ntmps26
        go_upto_region 1 with fail
        generalize World.alloc (World.alloc (World.alloc w _) _) _ = v at h0 ⊢
        generalize hgz : w.heap.size + 1 + 1 = gz at h0 ⊢
        generalize hgs : w.heap.size + 1 = gs at h0 ⊢
        generalize w.heap.size = gp at h0 ⊢
        clear hgz hgs
        have H0 := Lib.hid h0
        clear h0
        have k8 : v.cell? ⟨gp, 8, none⟩ = some (I p.walk) := H0.out.cell 2 8 rfl rfl
        have k9 : v.cell? ⟨gp, 9, none⟩ = some (I p.blinks) := H0.out.cell 2 9 rfl rfl
        rw [hk] at k8
        rw [hl] at k9
        have c0 : v.cell? ⟨gs, 0, none⟩ = some (I 2) := H0.out.cell 1 0 rfl rfl
        have c1 : v.cell? ⟨gs, 1, none⟩ = some (I t) := H0.out.cell 1 1 rfl rfl
        go_wp2_with (first | (go_at_call 25; refine (OM.out _).mono ?_; rintro e w' ⟨rfl, rfl⟩) | (refine wpList_store_row rfl 25 _ _ rfl gz #[I 2, I b] rfl rfl 25 _ (H0.out.at 0 rfl) infoFt rfl (by simp [Value.oneCell']) ?_))
        have hput := H0.out.put 0 rfl #[I 2, I b]
        simp only [List.set_cons_succ, List.set_cons_zero] at hput
        generalize World.setRow v gz _ = vz at hput ⊢
        have HG := Lib.hid hput
        clear hput
        go_wp2_with fail
        (try simp only [Exit.inBlock, Exit.then])
        refine bodyPost_ret (v := .agg #[I 2, I b]) ?_ rfl ⟨rfl, HG.out.bel⟩
        exact results_cell_row rfl _ _ gz 25 _ (0, 0) _ rfl (HG.out.at 0 rfl) Try.underlying25 rfl infoFt
    · cases g
      · unfold ft at hs
        rw [if_neg h1, if_neg h3, if_neg (by simp)] at hs
        injection hs with e1 e2
        subst e1
        subst e2
        go_enter Try.func26, Try.ntmps26
        go_upto_region 1 with fail
        generalize World.alloc (World.alloc (World.alloc w _) _) _ = v at h0 ⊢
        generalize hgz : w.heap.size + 1 + 1 = gz at h0 ⊢
        generalize hgs : w.heap.size + 1 = gs at h0 ⊢
        generalize w.heap.size = gp at h0 ⊢
        clear hgz hgs
        have H0 := Lib.hid h0
        clear h0
        have k8 : v.cell? ⟨gp, 8, none⟩ = some (I p.walk) := H0.out.cell 2 8 rfl rfl
        have k9 : v.cell? ⟨gp, 9, none⟩ = some (I p.blinks) := H0.out.cell 2 9 rfl rfl
        rw [hk] at k8
        rw [hl] at k9
        have c0 : v.cell? ⟨gs, 0, none⟩ = some (I s) := H0.out.cell 1 0 rfl rfl
        have c1 : v.cell? ⟨gs, 1, none⟩ = some (I t) := H0.out.cell 1 1 rfl rfl
        go_wp2_with (first | (refine wpList_store_row rfl 25 _ _ rfl gz #[I 0, I 0] rfl rfl 25 _ (H0.out.at 0 rfl) infoFt rfl (by simp [Value.oneCell']) ?_))
        have hput := H0.out.put 0 rfl #[I 0, I 0]
        simp only [List.set_cons_succ, List.set_cons_zero] at hput
        generalize World.setRow v gz _ = vz at hput ⊢
        have HG := Lib.hid hput
        clear hput
        go_wp2_with fail
        (try simp only [Exit.inBlock, Exit.then])
        refine bodyPost_ret (v := .agg #[I 0, I 0]) ?_ rfl ⟨rfl, HG.out.bel⟩
        exact results_cell_row rfl _ _ gz 25 _ (0, 0) _ rfl (HG.out.at 0 rfl) Try.underlying25 rfl infoFt
      · by_cases h2 : 0 < k
        · unfold ft at hs
          rw [if_neg h1, if_neg h3, if_pos ⟨rfl, h2⟩] at hs
          injection hs with e1 e2
          subst e1
          subst e2
          go_enter Try.func26, Try.ntmps26
          go_upto_region 1 with fail
          generalize World.alloc (World.alloc (World.alloc w _) _) _ = v at h0 ⊢
          generalize hgz : w.heap.size + 1 + 1 = gz at h0 ⊢
          generalize hgs : w.heap.size + 1 = gs at h0 ⊢
          generalize w.heap.size = gp at h0 ⊢
          clear hgz hgs
          have H0 := Lib.hid h0
          clear h0
          have k8 : v.cell? ⟨gp, 8, none⟩ = some (I p.walk) := H0.out.cell 2 8 rfl rfl
          have k9 : v.cell? ⟨gp, 9, none⟩ = some (I p.blinks) := H0.out.cell 2 9 rfl rfl
          rw [hk] at k8
          rw [hl] at k9
          have c0 : v.cell? ⟨gs, 0, none⟩ = some (I s) := H0.out.cell 1 0 rfl rfl
          have c1 : v.cell? ⟨gs, 1, none⟩ = some (I t) := H0.out.cell 1 1 rfl rfl
          go_wp2_with (first | (refine wpList_store_row rfl 25 _ _ rfl gz #[I 1, I 1] rfl rfl 25 _ (H0.out.at 0 rfl) infoFt rfl (by simp [Value.oneCell']) ?_))
          have hput := H0.out.put 0 rfl #[I 1, I 1]
          simp only [List.set_cons_succ, List.set_cons_zero] at hput
          generalize World.setRow v gz _ = vz at hput ⊢
          have HG := Lib.hid hput
          clear hput
          go_wp2_with fail
          (try simp only [Exit.inBlock, Exit.then])
          refine bodyPost_ret (v := .agg #[I 1, I 1]) ?_ rfl ⟨rfl, HG.out.bel⟩
          exact results_cell_row rfl _ _ gz 25 _ (0, 0) _ rfl (HG.out.at 0 rfl) Try.underlying25 rfl infoFt
        · unfold ft at hs
          rw [if_neg h1, if_neg h3, if_neg (by simp [h2])] at hs
          injection hs with e1 e2
          subst e1
          subst e2
          go_enter Try.func26, Try.ntmps26
          go_upto_region 1 with fail
          generalize World.alloc (World.alloc (World.alloc w _) _) _ = v at h0 ⊢
          generalize hgz : w.heap.size + 1 + 1 = gz at h0 ⊢
          generalize hgs : w.heap.size + 1 = gs at h0 ⊢
          generalize w.heap.size = gp at h0 ⊢
          clear hgz hgs
          have H0 := Lib.hid h0
          clear h0
          have k8 : v.cell? ⟨gp, 8, none⟩ = some (I p.walk) := H0.out.cell 2 8 rfl rfl
          have k9 : v.cell? ⟨gp, 9, none⟩ = some (I p.blinks) := H0.out.cell 2 9 rfl rfl
          rw [hk] at k8
          rw [hl] at k9
          have c0 : v.cell? ⟨gs, 0, none⟩ = some (I s) := H0.out.cell 1 0 rfl rfl
          have c1 : v.cell? ⟨gs, 1, none⟩ = some (I t) := H0.out.cell 1 1 rfl rfl
          go_wp2_with (first | (refine wpList_store_row rfl 25 _ _ rfl gz #[I 0, I 0] rfl rfl 25 _ (H0.out.at 0 rfl) infoFt rfl (by simp [Value.oneCell']) ?_))
          have hput := H0.out.put 0 rfl #[I 0, I 0]
          simp only [List.set_cons_succ, List.set_cons_zero] at hput
          generalize World.setRow v gz _ = vz at hput ⊢
          have HG := Lib.hid hput
          clear hput
          go_wp2_with fail
          (try simp only [Exit.inBlock, Exit.then])
          refine bodyPost_ret (v := .agg #[I 0, I 0]) ?_ rfl ⟨rfl, HG.out.bel⟩
          exact results_cell_row rfl _ _ gz 25 _ (0, 0) _ rfl (HG.out.at 0 rfl) Try.underlying25 rfl infoFt
set_option maxHeartbeats 8000000 in
theorem step_is {p : Ph} {s t a b : Int} {g : Bool} (hs : ft p.walk p.blinks s t g = ⟨a, b⟩) (w : World) : Calls Try.prog 72 #[.agg p.cells.toArray, .agg #[I s, I t], .bool g] w fun e w' => e = .returned (.agg #[I a, I b]) ∧ Below w.heap.size w w' := by
  have h0 := (((Blk.Bks.nil w).alloc p.cells.toArray 23).alloc #[I s, I t] 25).alloc #[I 0, I 0] 25
  rw [show ((w.alloc (.cells p.cells.toArray 23)).alloc (.cells #[I s, I t] 25)).heap.size = w.heap.size + 1 + 1 by simp, show (w.alloc (.cells p.cells.toArray 23)).heap.size = w.heap.size + 1 by simp] at h0
  obtain ⟨k, hk⟩ : ∃ k, p.walk = k := ⟨_, rfl⟩
  obtain ⟨l, hl⟩ : ∃ l, p.blinks = l := ⟨_, rfl⟩
  rw [hk, hl] at hs
  by_cases h1 : s = 1
  · subst h1
    by_cases h2 : k ≤ t
    · unfold ft at hs
      rw [if_pos rfl, if_pos h2] at hs
      injection hs with e1 e2
      subst e1
      have LA : Hid (∀ W, Calls Try.prog 87 #[.agg #[I 1, I t], .int .i64 k, .agg #[I 2, I 1]] W fun e w' => e = .returned (.agg #[I 2, I 1]) ∧ Below W.heap.size W w') := Lib.hid (fun W => last_is (by rw [if_pos h2] ) W)
      subst e2
      go_enter Try.func72, Try.ntmps72
      go_upto_region 1 with fail
      generalize World.alloc (World.alloc (World.alloc w _) _) _ = v at h0 ⊢
      generalize hgz : w.heap.size + 1 + 1 = gz at h0 ⊢
      generalize hgs : w.heap.size + 1 = gs at h0 ⊢
      generalize w.heap.size = gp at h0 ⊢
      clear hgz hgs
      have H0 := Lib.hid h0
      clear h0
      have k8 : v.cell? ⟨gp, 8, none⟩ = some (I p.walk) := H0.out.cell 2 8 rfl rfl
      have k9 : v.cell? ⟨gp, 9, none⟩ = some (I p.blinks) := H0.out.cell 2 9 rfl rfl
      rw [hk] at k8
      rw [hl] at k9
      have c0 : v.cell? ⟨gs, 0, none⟩ = some (I 1) := H0.out.cell 1 0 rfl rfl
      have c1 : v.cell? ⟨gs, 1, none⟩ = some (I t) := H0.out.cell 1 1 rfl rfl
      have q8 : ∀ q : QB.By v.heap.size v, q.world.cell? ⟨gp, 8, none⟩ = some (I k) := fun q => by have := (H0.out.by q).cell 2 8 rfl rfl; rw [← hk]; exact this
      go_upto_region 2 with fail
      refine QT.region v.heap.size 4 (by kernel_rfl) (by kernel_rfl) ?_
      simp only [List.take_succ_cons, List.take_zero]
      repeat first
        | (refine wpQuiet_load rfl 25 _ rfl ⟨gs, 0, none⟩ rfl [I 1, I t] _ (fun w' ⟨p, e⟩ => by rw [e]; have := Row.lies_of_block ((H0.out.by p).at 1 rfl); simpa using this) Try.underlying25 rfl infoFt ?_
           dsimp only [Act.put]
           simp only [List.setIfInBounds_toArray, List.set_cons_zero, List.set_cons_succ])
        | (quiet_step (first
            | (go_at_call 88; with_reducible exact QB.call_of (Nat.le_refl _) (fun b => first_any 2 _))))
      refine wpQuiet_nil ?_
      intro _ hw'
      obtain ⟨pq, rfl⟩ := hw'
      have HP := Lib.hid (H0.out.by pq)
      clear q8
      generalize pq.world = vp at HP ⊢
      simp only [List.drop_succ_cons, List.drop_zero]
      go_wp2_with fail
      refine (LA.out _).mono ?_
      rintro e vc ⟨rfl, bc⟩
      have HD := Lib.hid (HP.out.step bc)
      clear bc HP
      go_wp2_with (first | (refine wpList_store_row rfl 25 _ _ rfl gz #[I 2, I 1] rfl rfl 25 _ (HD.out.at 0 rfl) infoFt rfl (by simp [Value.oneCell']) ?_))
      have hput := HD.out.put 0 rfl #[I 2, I 1]
      simp only [List.set_cons_succ, List.set_cons_zero] at hput
      generalize World.setRow vc gz _ = vz at hput ⊢
      have HG := Lib.hid hput
      clear hput
      go_wp2_with fail
      (try simp only [Exit.inBlock, Exit.then])
      refine bodyPost_ret (v := .agg #[I 2, I 1]) ?_ rfl ⟨rfl, HG.out.bel⟩
      exact results_cell_row rfl _ _ gz 25 _ (0, 0) _ rfl (HG.out.at 0 rfl) Try.underlying25 rfl infoFt
    · unfold ft at hs
      rw [if_pos rfl, if_neg h2] at hs
      injection hs with e1 e2
      subst e1
      have LA : Hid (∀ W, Calls Try.prog 87 #[.agg #[I 1, I t], .int .i64 k, .agg #[I 2, I 1]] W fun e w' => e = .returned (.agg #[I 1, I b]) ∧ Below W.heap.size W w') := Lib.hid (fun W => last_is (by rw [if_neg h2]; rw [e2]) W)
      clear e2
      go_enter Try.func72, Try.ntmps72
      go_upto_region 1 with fail
      generalize World.alloc (World.alloc (World.alloc w _) _) _ = v at h0 ⊢
      generalize hgz : w.heap.size + 1 + 1 = gz at h0 ⊢
      generalize hgs : w.heap.size + 1 = gs at h0 ⊢
      generalize w.heap.size = gp at h0 ⊢
      clear hgz hgs
      have H0 := Lib.hid h0
      clear h0
      have k8 : v.cell? ⟨gp, 8, none⟩ = some (I p.walk) := H0.out.cell 2 8 rfl rfl
      have k9 : v.cell? ⟨gp, 9, none⟩ = some (I p.blinks) := H0.out.cell 2 9 rfl rfl
      rw [hk] at k8
      rw [hl] at k9
      have c0 : v.cell? ⟨gs, 0, none⟩ = some (I 1) := H0.out.cell 1 0 rfl rfl
      have c1 : v.cell? ⟨gs, 1, none⟩ = some (I t) := H0.out.cell 1 1 rfl rfl
      have q8 : ∀ q : QB.By v.heap.size v, q.world.cell? ⟨gp, 8, none⟩ = some (I k) := fun q => by have := (H0.out.by q).cell 2 8 rfl rfl; rw [← hk]; exact this
      go_upto_region 2 with fail
      refine QT.region v.heap.size 4 (by kernel_rfl) (by kernel_rfl) ?_
      simp only [List.take_succ_cons, List.take_zero]
      repeat first
        | (refine wpQuiet_load rfl 25 _ rfl ⟨gs, 0, none⟩ rfl [I 1, I t] _ (fun w' ⟨p, e⟩ => by rw [e]; have := Row.lies_of_block ((H0.out.by p).at 1 rfl); simpa using this) Try.underlying25 rfl infoFt ?_
           dsimp only [Act.put]
           simp only [List.setIfInBounds_toArray, List.set_cons_zero, List.set_cons_succ])
        | (quiet_step (first
            | (go_at_call 88; with_reducible exact QB.call_of (Nat.le_refl _) (fun b => first_any 2 _))))
      refine wpQuiet_nil ?_
      intro _ hw'
      obtain ⟨pq, rfl⟩ := hw'
      have HP := Lib.hid (H0.out.by pq)
      clear q8
      generalize pq.world = vp at HP ⊢
      simp only [List.drop_succ_cons, List.drop_zero]
      go_wp2_with fail
      refine (LA.out _).mono ?_
      rintro e vc ⟨rfl, bc⟩
      have HD := Lib.hid (HP.out.step bc)
      clear bc HP
      go_wp2_with (first | (refine wpList_store_row rfl 25 _ _ rfl gz #[I 1, I b] rfl rfl 25 _ (HD.out.at 0 rfl) infoFt rfl (by simp [Value.oneCell']) ?_))
      have hput := HD.out.put 0 rfl #[I 1, I b]
      simp only [List.set_cons_succ, List.set_cons_zero] at hput
      generalize World.setRow vc gz _ = vz at hput ⊢
      have HG := Lib.hid hput
      clear hput
      go_wp2_with fail
      (try simp only [Exit.inBlock, Exit.then])
      refine bodyPost_ret (v := .agg #[I 1, I b]) ?_ rfl ⟨rfl, HG.out.bel⟩
      exact results_cell_row rfl _ _ gz 25 _ (0, 0) _ rfl (HG.out.at 0 rfl) Try.underlying25 rfl infoFt
  · by_cases h3 : s = 2
    · subst h3
      by_cases h2 : l ≤ t
      · unfold ft at hs
        rw [if_neg h1, if_pos rfl, if_pos h2] at hs
        injection hs with e1 e2
        subst e1
        have LA : Hid (∀ W, Calls Try.prog 87 #[.agg #[I 2, I t], .int .i64 l, .agg #[I 0, I 0]] W fun e w' => e = .returned (.agg #[I 0, I 0]) ∧ Below W.heap.size W w') := Lib.hid (fun W => last_is (by rw [if_pos h2] ) W)
        subst e2
        go_enter Try.func72, Try.ntmps72
        go_upto_region 1 with fail
        generalize World.alloc (World.alloc (World.alloc w _) _) _ = v at h0 ⊢
        generalize hgz : w.heap.size + 1 + 1 = gz at h0 ⊢
        generalize hgs : w.heap.size + 1 = gs at h0 ⊢
        generalize w.heap.size = gp at h0 ⊢
        clear hgz hgs
        have H0 := Lib.hid h0
        clear h0
        have k8 : v.cell? ⟨gp, 8, none⟩ = some (I p.walk) := H0.out.cell 2 8 rfl rfl
        have k9 : v.cell? ⟨gp, 9, none⟩ = some (I p.blinks) := H0.out.cell 2 9 rfl rfl
        rw [hk] at k8
        rw [hl] at k9
        have c0 : v.cell? ⟨gs, 0, none⟩ = some (I 2) := H0.out.cell 1 0 rfl rfl
        have c1 : v.cell? ⟨gs, 1, none⟩ = some (I t) := H0.out.cell 1 1 rfl rfl
        go_wp2_with (refine Row.wpList_load_g 25 _ rfl (by first | rfl | (go_simp; done) | fail) ⟨gs, 0, none⟩ rfl [I 2, I t] _ (by have := Row.lies_of_block (H0.out.at 1 rfl); simpa using this) Try.underlying25 rfl infoFt ?_)
        refine (LA.out _).mono ?_
        rintro e vc ⟨rfl, bc⟩
        have HD := Lib.hid (H0.out.step bc)
        clear bc
        go_wp2_with (first | (refine wpList_store_row rfl 25 _ _ rfl gz #[I 0, I 0] rfl rfl 25 _ (HD.out.at 0 rfl) infoFt rfl (by simp [Value.oneCell']) ?_))
        have hput := HD.out.put 0 rfl #[I 0, I 0]
        simp only [List.set_cons_succ, List.set_cons_zero] at hput
        generalize World.setRow vc gz _ = vz at hput ⊢
        have HG := Lib.hid hput
        clear hput
        go_wp2_with fail
        (try simp only [Exit.inBlock, Exit.then])
        refine bodyPost_ret (v := .agg #[I 0, I 0]) ?_ rfl ⟨rfl, HG.out.bel⟩
        exact results_cell_row rfl _ _ gz 25 _ (0, 0) _ rfl (HG.out.at 0 rfl) Try.underlying25 rfl infoFt
      · unfold ft at hs
        rw [if_neg h1, if_pos rfl, if_neg h2] at hs
        injection hs with e1 e2
        subst e1
        have LA : Hid (∀ W, Calls Try.prog 87 #[.agg #[I 2, I t], .int .i64 l, .agg #[I 0, I 0]] W fun e w' => e = .returned (.agg #[I 2, I b]) ∧ Below W.heap.size W w') := Lib.hid (fun W => last_is (by rw [if_neg h2]; rw [e2]) W)
        clear e2
        go_enter Try.func72, Try.ntmps72
        go_upto_region 1 with fail
        generalize World.alloc (World.alloc (World.alloc w _) _) _ = v at h0 ⊢
        generalize hgz : w.heap.size + 1 + 1 = gz at h0 ⊢
        generalize hgs : w.heap.size + 1 = gs at h0 ⊢
        generalize w.heap.size = gp at h0 ⊢
        clear hgz hgs
        have H0 := Lib.hid h0
        clear h0
        have k8 : v.cell? ⟨gp, 8, none⟩ = some (I p.walk) := H0.out.cell 2 8 rfl rfl
        have k9 : v.cell? ⟨gp, 9, none⟩ = some (I p.blinks) := H0.out.cell 2 9 rfl rfl
        rw [hk] at k8
        rw [hl] at k9
        have c0 : v.cell? ⟨gs, 0, none⟩ = some (I 2) := H0.out.cell 1 0 rfl rfl
        have c1 : v.cell? ⟨gs, 1, none⟩ = some (I t) := H0.out.cell 1 1 rfl rfl
        go_wp2_with (refine Row.wpList_load_g 25 _ rfl (by first | rfl | (go_simp; done) | fail) ⟨gs, 0, none⟩ rfl [I 2, I t] _ (by have := Row.lies_of_block (H0.out.at 1 rfl); simpa using this) Try.underlying25 rfl infoFt ?_)
        refine (LA.out _).mono ?_
        rintro e vc ⟨rfl, bc⟩
        have HD := Lib.hid (H0.out.step bc)
        clear bc
        go_wp2_with (first | (refine wpList_store_row rfl 25 _ _ rfl gz #[I 2, I b] rfl rfl 25 _ (HD.out.at 0 rfl) infoFt rfl (by simp [Value.oneCell']) ?_))
        have hput := HD.out.put 0 rfl #[I 2, I b]
        simp only [List.set_cons_succ, List.set_cons_zero] at hput
        generalize World.setRow vc gz _ = vz at hput ⊢
        have HG := Lib.hid hput
        clear hput
        go_wp2_with fail
        (try simp only [Exit.inBlock, Exit.then])
        refine bodyPost_ret (v := .agg #[I 2, I b]) ?_ rfl ⟨rfl, HG.out.bel⟩
        exact results_cell_row rfl _ _ gz 25 _ (0, 0) _ rfl (HG.out.at 0 rfl) Try.underlying25 rfl infoFt
    · cases g
      · unfold ft at hs
        rw [if_neg h1, if_neg h3, if_neg (by simp)] at hs
        injection hs with e1 e2
        subst e1
        subst e2
        go_enter Try.func72, Try.ntmps72
        go_upto_region 1 with fail
        generalize World.alloc (World.alloc (World.alloc w _) _) _ = v at h0 ⊢
        generalize hgz : w.heap.size + 1 + 1 = gz at h0 ⊢
        generalize hgs : w.heap.size + 1 = gs at h0 ⊢
        generalize w.heap.size = gp at h0 ⊢
        clear hgz hgs
        have H0 := Lib.hid h0
        clear h0
        have k8 : v.cell? ⟨gp, 8, none⟩ = some (I p.walk) := H0.out.cell 2 8 rfl rfl
        have k9 : v.cell? ⟨gp, 9, none⟩ = some (I p.blinks) := H0.out.cell 2 9 rfl rfl
        rw [hk] at k8
        rw [hl] at k9
        have c0 : v.cell? ⟨gs, 0, none⟩ = some (I s) := H0.out.cell 1 0 rfl rfl
        have c1 : v.cell? ⟨gs, 1, none⟩ = some (I t) := H0.out.cell 1 1 rfl rfl
        go_wp2_with (first | (refine wpList_store_row rfl 25 _ _ rfl gz #[I 0, I 0] rfl rfl 25 _ (H0.out.at 0 rfl) infoFt rfl (by simp [Value.oneCell']) ?_))
        have hput := H0.out.put 0 rfl #[I 0, I 0]
        simp only [List.set_cons_succ, List.set_cons_zero] at hput
        generalize World.setRow v gz _ = vz at hput ⊢
        have HG := Lib.hid hput
        clear hput
        go_wp2_with fail
        (try simp only [Exit.inBlock, Exit.then])
        refine bodyPost_ret (v := .agg #[I 0, I 0]) ?_ rfl ⟨rfl, HG.out.bel⟩
        exact results_cell_row rfl _ _ gz 25 _ (0, 0) _ rfl (HG.out.at 0 rfl) Try.underlying25 rfl infoFt
      · by_cases h2 : 0 < k
        · unfold ft at hs
          rw [if_neg h1, if_neg h3, if_pos ⟨rfl, h2⟩] at hs
          injection hs with e1 e2
          subst e1
          subst e2
          go_enter Try.func72, Try.ntmps72
          go_upto_region 1 with fail
          generalize World.alloc (World.alloc (World.alloc w _) _) _ = v at h0 ⊢
          generalize hgz : w.heap.size + 1 + 1 = gz at h0 ⊢
          generalize hgs : w.heap.size + 1 = gs at h0 ⊢
          generalize w.heap.size = gp at h0 ⊢
          clear hgz hgs
          have H0 := Lib.hid h0
          clear h0
          have k8 : v.cell? ⟨gp, 8, none⟩ = some (I p.walk) := H0.out.cell 2 8 rfl rfl
          have k9 : v.cell? ⟨gp, 9, none⟩ = some (I p.blinks) := H0.out.cell 2 9 rfl rfl
          rw [hk] at k8
          rw [hl] at k9
          have c0 : v.cell? ⟨gs, 0, none⟩ = some (I s) := H0.out.cell 1 0 rfl rfl
          have c1 : v.cell? ⟨gs, 1, none⟩ = some (I t) := H0.out.cell 1 1 rfl rfl
          go_wp2_with fail
          refine (first_any 1 _).mono ?_
          rintro e vc ⟨rfl, bc⟩
          have HD := Lib.hid (H0.out.step bc)
          clear bc
          go_wp2_with (first | (refine wpList_store_row rfl 25 _ _ rfl gz #[I 1, I 1] rfl rfl 25 _ (HD.out.at 0 rfl) infoFt rfl (by simp [Value.oneCell']) ?_))
          have hput := HD.out.put 0 rfl #[I 1, I 1]
          simp only [List.set_cons_succ, List.set_cons_zero] at hput
          generalize World.setRow vc gz _ = vz at hput ⊢
          have HG := Lib.hid hput
          clear hput
          go_wp2_with fail
          (try simp only [Exit.inBlock, Exit.then])
          refine bodyPost_ret (v := .agg #[I 1, I 1]) ?_ rfl ⟨rfl, HG.out.bel⟩
          exact results_cell_row rfl _ _ gz 25 _ (0, 0) _ rfl (HG.out.at 0 rfl) Try.underlying25 rfl infoFt
        · unfold ft at hs
          rw [if_neg h1, if_neg h3, if_neg (by simp [h2])] at hs
          injection hs with e1 e2
          subst e1
          subst e2
          go_enter Try.func72, Try.ntmps72
          go_upto_region 1 with fail
          generalize World.alloc (World.alloc (World.alloc w _) _) _ = v at h0 ⊢
          generalize hgz : w.heap.size + 1 + 1 = gz at h0 ⊢
          generalize hgs : w.heap.size + 1 = gs at h0 ⊢
          generalize w.heap.size = gp at h0 ⊢
          clear hgz hgs
          have H0 := Lib.hid h0
          clear h0
          have k8 : v.cell? ⟨gp, 8, none⟩ = some (I p.walk) := H0.out.cell 2 8 rfl rfl
          have k9 : v.cell? ⟨gp, 9, none⟩ = some (I p.blinks) := H0.out.cell 2 9 rfl rfl
          rw [hk] at k8
          rw [hl] at k9
          have c0 : v.cell? ⟨gs, 0, none⟩ = some (I s) := H0.out.cell 1 0 rfl rfl
          have c1 : v.cell? ⟨gs, 1, none⟩ = some (I t) := H0.out.cell 1 1 rfl rfl
          go_wp2_with (first | (refine wpList_store_row rfl 25 _ _ rfl gz #[I 0, I 0] rfl rfl 25 _ (H0.out.at 0 rfl) infoFt rfl (by simp [Value.oneCell']) ?_))
          have hput := H0.out.put 0 rfl #[I 0, I 0]
          simp only [List.set_cons_succ, List.set_cons_zero] at hput
          generalize World.setRow v gz _ = vz at hput ⊢
          have HG := Lib.hid hput
          clear hput
          go_wp2_with fail
          (try simp only [Exit.inBlock, Exit.then])
          refine bodyPost_ret (v := .agg #[I 0, I 0]) ?_ rfl ⟨rfl, HG.out.bel⟩
          exact results_cell_row rfl _ _ gz 25 _ (0, 0) _ rfl (HG.out.at 0 rfl) Try.underlying25 rfl infoFt
set_option maxHeartbeats 4000000 in
theorem cut_is {s t a b : Int} (hs : cu s t = ⟨a, b⟩) (w : World) : Calls Try.prog 75 #[.agg #[I s, I t]] w fun e w' => e = .returned (.agg #[I a, I b]) ∧ Below w.heap.size w w' := by
  have h0 := ((Blk.Bks.nil w).alloc #[I s, I t] 25).alloc #[I 0, I 0] 25
  rw [show (w.alloc (.cells #[I s, I t] 25)).heap.size = w.heap.size + 1 by simp] at h0
  unfold cu at hs
  by_cases h1 : s = 1
  · subst h1
    rw [if_pos rfl] at hs
    injection hs with e1 e2
    subst e1 e2
    go_enter Try.func75, Try.ntmps75
    go_upto_region 1 with fail
    generalize World.alloc (World.alloc w _) _ = v at h0 ⊢
    generalize hgz : w.heap.size + 1 = gz at h0 ⊢
    generalize w.heap.size = gs at h0 ⊢
    clear hgz
    have H0 := Lib.hid h0
    clear h0
    have c0 : v.cell? ⟨gs, 0, none⟩ = some (I 1) := H0.out.cell 1 0 rfl rfl
    go_wp2_with fail
    refine (first_any 2 _).mono ?_
    rintro e vc ⟨rfl, bc⟩
    have HD := Lib.hid (H0.out.step bc)
    clear bc
    go_wp2_with (first | (refine wpList_store_row rfl 25 _ _ rfl gz #[I 2, I 1] rfl rfl 25 _ (HD.out.at 0 rfl) infoFt rfl (by simp [Value.oneCell']) ?_))
    have hput := HD.out.put 0 rfl #[I 2, I 1]
    simp only [List.set_cons_succ, List.set_cons_zero] at hput
    generalize World.setRow vc gz _ = vz at hput ⊢
    have HG := Lib.hid hput
    clear hput
    go_wp2_with fail
    (try simp only [Exit.inBlock, Exit.then])
    refine bodyPost_ret (v := .agg #[I 2, I 1]) ?_ rfl ⟨rfl, HG.out.bel⟩
    exact results_cell_row rfl _ _ gz 25 _ (0, 0) _ rfl (HG.out.at 0 rfl) Try.underlying25 rfl infoFt
  · rw [if_neg h1] at hs
    injection hs with e1 e2
    subst e1 e2
    go_enter Try.func75, Try.ntmps75
    go_upto_region 1 with fail
    generalize World.alloc (World.alloc w _) _ = v at h0 ⊢
    generalize hgz : w.heap.size + 1 = gz at h0 ⊢
    generalize w.heap.size = gs at h0 ⊢
    clear hgz
    have H0 := Lib.hid h0
    clear h0
    have c0 : v.cell? ⟨gs, 0, none⟩ = some (I s) := H0.out.cell 1 0 rfl rfl
    go_wp2_with (first | (refine Row.wpList_load_g 25 _ rfl (by first | rfl | (go_simp; done) | fail) ⟨gs, 0, none⟩ rfl [I s, I t] _ (by have := Row.lies_of_block (H0.out.at 1 rfl); simpa using this) Try.underlying25 rfl infoFt ?_) | (refine wpList_store_row rfl 25 _ _ rfl gz #[I s, I t] rfl rfl 25 _ (H0.out.at 0 rfl) infoFt rfl (by simp [Value.oneCell']) ?_))
    have hput := H0.out.put 0 rfl #[I s, I t]
    simp only [List.set_cons_succ, List.set_cons_zero] at hput
    generalize World.setRow v gz _ = vz at hput ⊢
    have HG := Lib.hid hput
    clear hput
    go_wp2_with fail
    (try simp only [Exit.inBlock, Exit.then])
    refine bodyPost_ret (v := .agg #[I s, I t]) ?_ rfl ⟨rfl, HG.out.bel⟩
    exact results_cell_row rfl _ _ gz 25 _ (0, 0) _ rfl (HG.out.at 0 rfl) Try.underlying25 rfl infoFt
set_option maxHeartbeats 4000000 in
theorem rcut_is {s t a b : Int} (hs : cu s t = ⟨a, b⟩) (w : World) : Calls Try.prog 49 #[.agg #[I s, I t]] w fun e w' => e = .returned (.agg #[I a, I b]) ∧ Below w.heap.size w w' := by
  have h0 := ((Blk.Bks.nil w).alloc #[I s, I t] 25).alloc #[I 0, I 0] 25
  rw [show (w.alloc (.cells #[I s, I t] 25)).heap.size = w.heap.size + 1 by simp] at h0
  unfold cu at hs
  by_cases h1 : s = 1
  · subst h1
    rw [if_pos rfl] at hs
    injection hs with e1 e2
    subst e1 e2
    go_enter Try.func49, Try.ntmps49
    go_upto_region 1 with fail
    generalize World.alloc (World.alloc w _) _ = v at h0 ⊢
    generalize hgz : w.heap.size + 1 = gz at h0 ⊢
    generalize w.heap.size = gs at h0 ⊢
    clear hgz
    have H0 := Lib.hid h0
    clear h0
    have c0 : v.cell? ⟨gs, 0, none⟩ = some (I 1) := H0.out.cell 1 0 rfl rfl
    go_wp2_with (first | (refine wpList_store_row rfl 25 _ _ rfl gz #[I 2, I 1] rfl rfl 25 _ (H0.out.at 0 rfl) infoFt rfl (by simp [Value.oneCell']) ?_))
    have hput := H0.out.put 0 rfl #[I 2, I 1]
    simp only [List.set_cons_succ, List.set_cons_zero] at hput
    generalize World.setRow v gz _ = vz at hput ⊢
    have HG := Lib.hid hput
    clear hput
    go_wp2_with fail
    (try simp only [Exit.inBlock, Exit.then])
    refine bodyPost_ret (v := .agg #[I 2, I 1]) ?_ rfl ⟨rfl, HG.out.bel⟩
    exact results_cell_row rfl _ _ gz 25 _ (0, 0) _ rfl (HG.out.at 0 rfl) Try.underlying25 rfl infoFt
  · rw [if_neg h1] at hs
    injection hs with e1 e2
    subst e1 e2
    go_enter Try.func49, Try.ntmps49
    go_upto_region 1 with fail
    generalize World.alloc (World.alloc w _) _ = v at h0 ⊢
    generalize hgz : w.heap.size + 1 = gz at h0 ⊢
    generalize w.heap.size = gs at h0 ⊢
    clear hgz
    have H0 := Lib.hid h0
    clear h0
    have c0 : v.cell? ⟨gs, 0, none⟩ = some (I s) := H0.out.cell 1 0 rfl rfl
    go_wp2_with (first | (refine Row.wpList_load_g 25 _ rfl (by first | rfl | (go_simp; done) | fail) ⟨gs, 0, none⟩ rfl [I s, I t] _ (by have := Row.lies_of_block (H0.out.at 1 rfl); simpa using this) Try.underlying25 rfl infoFt ?_) | (refine wpList_store_row rfl 25 _ _ rfl gz #[I s, I t] rfl rfl 25 _ (H0.out.at 0 rfl) infoFt rfl (by simp [Value.oneCell']) ?_))
    have hput := H0.out.put 0 rfl #[I s, I t]
    simp only [List.set_cons_succ, List.set_cons_zero] at hput
    generalize World.setRow v gz _ = vz at hput ⊢
    have HG := Lib.hid hput
    clear hput
    go_wp2_with fail
    (try simp only [Exit.inBlock, Exit.then])
    refine bodyPost_ret (v := .agg #[I s, I t]) ?_ rfl ⟨rfl, HG.out.bel⟩
    exact results_cell_row rfl _ _ gz 25 _ (0, 0) _ rfl (HG.out.at 0 rfl) Try.underlying25 rfl infoFt
def idl (s : Int) : Bool := s != 1 && s != 2
set_option maxHeartbeats 4000000 in
theorem idle_any (s t : Int) (w : World) : Calls Try.prog 50 #[.agg #[I s, I t]] w fun e w' => e = .returned (.bool (idl s)) ∧ Below w.heap.size w w' := by
  have h0 := (Blk.Bks.nil w).alloc #[I s, I t] 25
  by_cases h1 : s = 1
  · subst h1
    have HE : Hid (idl 1 = false) := Lib.hid (by unfold idl; simp)
    go_enter Try.func50, Try.ntmps50
    go_upto_region 1 with fail
    generalize World.alloc w _ = v at h0 ⊢
    generalize w.heap.size = gs at h0 ⊢
    have H0 := Lib.hid h0
    clear h0
    have c0 : v.cell? ⟨gs, 0, none⟩ = some (I 1) := H0.out.cell 0 0 rfl rfl
    go_wp2
    go_ret
    exact ⟨ret_bool HE.out.symm, H0.out.bel⟩
  · by_cases h3 : s = 2
    · subst h3
      have HE : Hid (idl 2 = false) := Lib.hid (by unfold idl; simp)
      go_enter Try.func50, Try.ntmps50
      go_upto_region 1 with fail
      generalize World.alloc w _ = v at h0 ⊢
      generalize w.heap.size = gs at h0 ⊢
      have H0 := Lib.hid h0
      clear h0
      have c0 : v.cell? ⟨gs, 0, none⟩ = some (I 2) := H0.out.cell 0 0 rfl rfl
      go_wp2
      go_ret
      exact ⟨ret_bool HE.out.symm, H0.out.bel⟩
    · have HE : Hid (idl s = (s != 1 && s != 2)) := Lib.hid (by rfl)
      go_enter Try.func50, Try.ntmps50
      go_upto_region 1 with fail
      generalize World.alloc w _ = v at h0 ⊢
      generalize w.heap.size = gs at h0 ⊢
      have H0 := Lib.hid h0
      clear h0
      have c0 : v.cell? ⟨gs, 0, none⟩ = some (I s) := H0.out.cell 0 0 rfl rfl
      go_wp2
      go_ret
      exact ⟨ret_bool HE.out.symm, H0.out.bel⟩
end Go.Proofs.Ytbpfknkbiaplpaa.Ped
