/- Package diag: contracts of Step, Stuck and of the document's own answers, and of the examples. -/
import Derived.Test.YtbmcendlpeaaeaaRows
import Derived.Test.YtbmcendlpeaaeaaCnt
import Derived.Test.YtbmcendlpeaaeaaTabArg
import Derived.Test.YtbmcendlpeaaeaaBlk
import Derived.Test.YtbmcendlpeaaeaaArg
import Derived.StillTailTactics
import Derived.Deep.Cut
import Derived.Laws.Tables
import Derived.Laws.CopyOwn
import Derived.Laws.Rows
import Derived.Deep.RegionHeld3
namespace Go.Proofs.Ytbmcendlpeaaeaa.Dig
open Go.ChangeShapes Go.WideShapes Go.ChangeAt Go.RowKit
open Tab Flat TabArg
open Cnt (more ct)
set_option linter.unusedVariables false
set_option linter.unusedSimpArgs false
structure Wd where
  on : Int
  off : Int
deriving DecidableEq
def Wd.cells (s : Wd) : List Value := [I s.on, I s.off]
instance : Inhabited Wd := ⟨⟨0, 0⟩⟩
theorem flW : flat Try.prog 4 59 = some [3, 3] := by kernel_rfl
section
variable {H : Type} {enc : TypeId × Value → H} {P : Program} {w : World} {base : Nat} {spare : Nat → Bool} {held : Bool}
theorem wd_el : ∀ {cs : List Value}, All2 (Tr enc Try.prog w base spare held) [3, 3] cs → ∃ d : Wd, cs = d.cells
  | [_, _], ⟨h0, h1, _⟩ => by
    obtain ⟨v0, rfl⟩ := tr_int Try.underlying3 h0
    obtain ⟨v1, rfl⟩ := tr_int Try.underlying3 h1
    exact ⟨⟨v0, v1⟩, rfl⟩
end
theorem infoW : (Try.prog.info? 59).map (·.size) = some 2 := by kernel_rfl
/-- One tick. -/
def wat (s : Wd) (i : Bool) : Wd := if i = true then ⟨more s.on, 0⟩ else ⟨0, more s.off⟩
/-- Has it been alike for too long? -/
def stk (a b : Int) (s : Wd) : Bool := decide (0 < a ∧ a ≤ s.on) || decide (0 < b ∧ b ≤ s.off)
theorem oneMore_any (n : Int) (w : World) : Calls Try.prog 64 #[.int .i64 n] w fun e w' => e = .returned (.int .i64 (more n)) ∧ w = w' := by
  by_cases h1 : n < 0
  · have HE : Hid (more n = 1) := Lib.hid (by unfold more ct; rw [if_pos h1]; rfl)
    have em : max n 0 = 0 := by omega
    go_enter Try.func64, Try.ntmps64
    go_wp2
    go_ret
    exact ⟨Cnt.ret_int HE.out.symm, rfl⟩
  by_cases h2 : 9999 < n
  · have HE : Hid (more n = 10000) := Lib.hid (by unfold more ct; rw [if_neg h1, if_pos h2]; rfl)
    go_enter Try.func64, Try.ntmps64
    go_wp2
    go_ret
    exact ⟨Cnt.ret_int HE.out.symm, rfl⟩
  · have HE : Hid (more n = n + 1) := Lib.hid (by unfold more ct; rw [if_neg h1, if_neg h2])
    have e1 : IntKind.i64.wrap (n + 1) = n + 1 := by rw [IntKind.wrap_i64]; omega
    go_enter Try.func64, Try.ntmps64
    go_wp2
    go_ret
    exact ⟨Cnt.ret_int HE.out.symm, rfl⟩
theorem oneMore_is {n m : Int} (h : more n = m) (w : World) : Calls Try.prog 64 #[.int .i64 n] w fun e w' => e = .returned (.int .i64 m) ∧ w = w' := by rw [← h]; exact oneMore_any n w
theorem rmore_is {n m : Int} (h : more n = m) (w : World) : Calls Try.prog 49 #[.int .i64 n] w fun e w' => e = .returned (.int .i64 m) ∧ w = w' := by rw [← h]; exact Cnt.rmore_any n w
set_option maxHeartbeats 8000000 in
theorem step_is {a b a' b' : Int} {i : Bool} (hs : wat ⟨a, b⟩ i = ⟨a', b'⟩) (w : World) : Calls Try.prog 45 #[.agg #[I a, I b], .bool i] w fun e w' => e = .returned (.agg #[I a', I b']) ∧ Below w.heap.size w w' := by
  obtain ⟨ma, hma⟩ : ∃ c, more a = c := ⟨_, rfl⟩
  obtain ⟨mb, hmb⟩ : ∃ c, more b = c := ⟨_, rfl⟩
  have HA := Lib.hid hma
  have HB := Lib.hid hmb
  have h0 := ((Blk.Bks.nil w).alloc #[I a, I b] 59).alloc #[I 0, I 0] 59
  rw [show (w.alloc (.cells #[I a, I b] 59)).heap.size = w.heap.size + 1 by simp] at h0
  cases i
  · obtain ⟨rfl, rfl⟩ : a' = 0 ∧ b' = mb := by
      unfold wat at hs
      simp only [Bool.false_eq_true, if_true, if_false, Wd.mk.injEq] at hs
      omega
    clear hs hma hmb
    go_enter Try.func45, Try.ntmps45
    go_upto_region 1 with fail
    generalize World.alloc (World.alloc w _) _ = u at h0 ⊢
    generalize hgz : w.heap.size + 1 = gz at h0 ⊢
    generalize w.heap.size = gs at h0 ⊢
    clear hgz
    have H0 := Lib.hid h0
    clear h0
    have k1_0 : u.cell? ⟨gs, 0, none⟩ = some (I a) := H0.out.cell 1 0 rfl rfl
    have k1_1 : u.cell? ⟨gs, 1, none⟩ = some (I b) := H0.out.cell 1 1 rfl rfl
    go_wp2_with (first | (go_at_call 64; with_reducible refine (oneMore_is HB.out _).mono ?_; rintro e w' ⟨rfl, rfl⟩) | (refine wpList_store_row rfl 59 _ _ rfl gz #[I 0, I b'] rfl rfl 59 _ (H0.out.at 0 rfl) infoW rfl (by simp [Value.oneCell']) ?_))
    have hput := H0.out.put 0 rfl #[I 0, I b']
    simp only [List.set_cons_succ, List.set_cons_zero] at hput
    generalize World.setRow _ gz _ = v2 at hput ⊢
    have HG := Lib.hid hput
    clear hput
    go_wp2_with fail
    (try simp only [Exit.inBlock, Exit.then])
    refine bodyPost_ret (v := .agg #[I 0, I b']) ?_ rfl ⟨rfl, HG.out.bel⟩
    exact results_cell_row rfl _ _ gz 59 _ (0, 0) _ rfl (HG.out.at 0 rfl) Try.underlying59 rfl infoW
  · obtain ⟨rfl, rfl⟩ : a' = ma ∧ b' = 0 := by
      unfold wat at hs
      simp only [Bool.false_eq_true, if_true, if_false, Wd.mk.injEq] at hs
      omega
    clear hs hma hmb
    go_enter Try.func45, Try.ntmps45
    go_upto_region 1 with fail
    generalize World.alloc (World.alloc w _) _ = u at h0 ⊢
    generalize hgz : w.heap.size + 1 = gz at h0 ⊢
    generalize w.heap.size = gs at h0 ⊢
    clear hgz
    have H0 := Lib.hid h0
    clear h0
    have k1_0 : u.cell? ⟨gs, 0, none⟩ = some (I a) := H0.out.cell 1 0 rfl rfl
    have k1_1 : u.cell? ⟨gs, 1, none⟩ = some (I b) := H0.out.cell 1 1 rfl rfl
    go_wp2_with (first | (go_at_call 64; with_reducible refine (oneMore_is HA.out _).mono ?_; rintro e w' ⟨rfl, rfl⟩) | (refine wpList_store_row rfl 59 _ _ rfl gz #[I a', I 0] rfl rfl 59 _ (H0.out.at 0 rfl) infoW rfl (by simp [Value.oneCell']) ?_))
    have hput := H0.out.put 0 rfl #[I a', I 0]
    simp only [List.set_cons_succ, List.set_cons_zero] at hput
    generalize World.setRow _ gz _ = v2 at hput ⊢
    have HG := Lib.hid hput
    clear hput
    go_wp2_with fail
    (try simp only [Exit.inBlock, Exit.then])
    refine bodyPost_ret (v := .agg #[I a', I 0]) ?_ rfl ⟨rfl, HG.out.bel⟩
    exact results_cell_row rfl _ _ gz 59 _ (0, 0) _ rfl (HG.out.at 0 rfl) Try.underlying59 rfl infoW
set_option maxHeartbeats 8000000 in
theorem rwatch_is {a b a' b' : Int} {i : Bool} (hs : wat ⟨a, b⟩ i = ⟨a', b'⟩) (w : World) : Calls Try.prog 25 #[.agg #[I a, I b], .bool i] w fun e w' => e = .returned (.agg #[I a', I b']) ∧ Below w.heap.size w w' := by
  obtain ⟨ma, hma⟩ : ∃ c, more a = c := ⟨_, rfl⟩
  obtain ⟨mb, hmb⟩ : ∃ c, more b = c := ⟨_, rfl⟩
  have HA := Lib.hid hma
  have HB := Lib.hid hmb
  have h0 := ((Blk.Bks.nil w).alloc #[I a, I b] 59).alloc #[I 0, I 0] 59
  rw [show (w.alloc (.cells #[I a, I b] 59)).heap.size = w.heap.size + 1 by simp] at h0
  cases i
  · obtain ⟨rfl, rfl⟩ : a' = 0 ∧ b' = mb := by
      unfold wat at hs
      simp only [Bool.false_eq_true, if_true, if_false, Wd.mk.injEq] at hs
      omega
    clear hs hma hmb
    go_enter Try.func25, Try.ntmps25
    go_upto_region 1 with fail
    generalize World.alloc (World.alloc w _) _ = u at h0 ⊢
    generalize hgz : w.heap.size + 1 = gz at h0 ⊢
    generalize w.heap.size = gs at h0 ⊢
    clear hgz
    have H0 := Lib.hid h0
    clear h0
    have k1_0 : u.cell? ⟨gs, 0, none⟩ = some (I a) := H0.out.cell 1 0 rfl rfl
    have k1_1 : u.cell? ⟨gs, 1, none⟩ = some (I b) := H0.out.cell 1 1 rfl rfl
    go_wp2_with (first | (go_at_call 49; with_reducible refine (rmore_is HB.out _).mono ?_; rintro e w' ⟨rfl, rfl⟩) | (refine wpList_store_row rfl 59 _ _ rfl gz #[I 0, I b'] rfl rfl 59 _ (H0.out.at 0 rfl) infoW rfl (by simp [Value.oneCell']) ?_))
    have hput := H0.out.put 0 rfl #[I 0, I b']
    simp only [List.set_cons_succ, List.set_cons_zero] at hput
    generalize World.setRow _ gz _ = v2 at hput ⊢
    have HG := Lib.hid hput
    clear hput
    go_wp2_with fail
    (try simp only [Exit.inBlock, Exit.then])
    refine bodyPost_ret (v := .agg #[I 0, I b']) ?_ rfl ⟨rfl, HG.out.bel⟩
    exact results_cell_row rfl _ _ gz 59 _ (0, 0) _ rfl (HG.out.at 0 rfl) Try.underlying59 rfl infoW
  · obtain ⟨rfl, rfl⟩ : a' = ma ∧ b' = 0 := by
      unfold wat at hs
      simp only [Bool.false_eq_true, if_true, if_false, Wd.mk.injEq] at hs
      omega
    clear hs hma hmb
    go_enter Try.func25, Try.ntmps25
    go_upto_region 1 with fail
    generalize World.alloc (World.alloc w _) _ = u at h0 ⊢
    generalize hgz : w.heap.size + 1 = gz at h0 ⊢
    generalize w.heap.size = gs at h0 ⊢
    clear hgz
    have H0 := Lib.hid h0
    clear h0
    have k1_0 : u.cell? ⟨gs, 0, none⟩ = some (I a) := H0.out.cell 1 0 rfl rfl
    have k1_1 : u.cell? ⟨gs, 1, none⟩ = some (I b) := H0.out.cell 1 1 rfl rfl
    go_wp2_with (first | (go_at_call 49; with_reducible refine (rmore_is HA.out _).mono ?_; rintro e w' ⟨rfl, rfl⟩) | (refine wpList_store_row rfl 59 _ _ rfl gz #[I a', I 0] rfl rfl 59 _ (H0.out.at 0 rfl) infoW rfl (by simp [Value.oneCell']) ?_))
    have hput := H0.out.put 0 rfl #[I a', I 0]
    simp only [List.set_cons_succ, List.set_cons_zero] at hput
    generalize World.setRow _ gz _ = v2 at hput ⊢
    have HG := Lib.hid hput
    clear hput
    go_wp2_with fail
    (try simp only [Exit.inBlock, Exit.then])
    refine bodyPost_ret (v := .agg #[I a', I 0]) ?_ rfl ⟨rfl, HG.out.bel⟩
    exact results_cell_row rfl _ _ gz 59 _ (0, 0) _ rfl (HG.out.at 0 rfl) Try.underlying59 rfl infoW
set_option maxHeartbeats 8000000 in
theorem stuck_is {m n a b : Int} {r : Bool} (hs : stk m n ⟨a, b⟩ = r) (w : World) : Calls Try.prog 52 #[.int .i64 m, .int .i64 n, .agg #[I a, I b]] w fun e w' => e = .returned (.bool r) ∧ Below w.heap.size w w' := by
  have h0 := (Blk.Bks.nil w).alloc #[I a, I b] 59
  unfold stk at hs
  simp only at hs
  have way : r = true ∧ (0 < m ∧ m ≤ a) ∨ r = true ∧ (¬ 0 < m) ∧ (0 < n ∧ n ≤ b) ∨ r = true ∧ (0 < m ∧ ¬ m ≤ a) ∧ (0 < n ∧ n ≤ b) ∨ r = false ∧ (¬ 0 < m) ∧ ¬ 0 < n ∨ r = false ∧ (¬ 0 < m) ∧ 0 < n ∧ ¬ n ≤ b ∨ r = false ∧ (0 < m ∧ ¬ m ≤ a) ∧ ¬ 0 < n ∨ r = false ∧ (0 < m ∧ ¬ m ≤ a) ∧ 0 < n ∧ ¬ n ≤ b := by
    subst hs
    by_cases h1 : 0 < m ∧ m ≤ a
    · exact .inl ⟨by simp [h1], h1⟩
    · by_cases h2 : 0 < n ∧ n ≤ b
      · simp only [h2, and_self, decide_true, Bool.or_true, true_and, and_true]; omega
      · simp only [h1, h2, decide_false, Bool.or_false, Bool.false_eq_true, false_and, false_or, true_and]; omega
  clear hs
  have HS : Hid (r = r) := Lib.hid rfl
  rcases way with ⟨rfl, h1, h2⟩ | ⟨rfl, h1, h2, h3⟩ | ⟨rfl, ⟨h1, h2⟩, h3, h4⟩ | ⟨rfl, h1, h2⟩ | ⟨rfl, h1, h2, h3⟩ | ⟨rfl, ⟨h1, h2⟩, h3⟩ | ⟨rfl, ⟨h1, h2⟩, h3, h4⟩
  all_goals
    go_enter Try.func52, Try.ntmps52
    go_upto_region 1 with fail
    generalize World.alloc w _ = u at h0 ⊢
    generalize w.heap.size = gs at h0 ⊢
    have H0 := Lib.hid h0
    clear h0
    have k0_0 : u.cell? ⟨gs, 0, none⟩ = some (I a) := H0.out.cell 0 0 rfl rfl
    have k0_1 : u.cell? ⟨gs, 1, none⟩ = some (I b) := H0.out.cell 0 1 rfl rfl
    go_wp2
    go_ret
    exact ⟨rfl, H0.out.bel⟩
set_option maxHeartbeats 8000000 in
theorem rstuck_is {m n a b : Int} {r : Bool} (hs : stk m n ⟨a, b⟩ = r) (w : World) : Calls Try.prog 31 #[.int .i64 m, .int .i64 n, .agg #[I a, I b]] w fun e w' => e = .returned (.bool r) ∧ Below w.heap.size w w' := by
  have h0 := (Blk.Bks.nil w).alloc #[I a, I b] 59
  unfold stk at hs
  simp only at hs
  have way : r = true ∧ (0 < m ∧ m ≤ a) ∨ r = true ∧ (¬ 0 < m) ∧ (0 < n ∧ n ≤ b) ∨ r = true ∧ (0 < m ∧ ¬ m ≤ a) ∧ (0 < n ∧ n ≤ b) ∨ r = false ∧ (¬ 0 < m) ∧ ¬ 0 < n ∨ r = false ∧ (¬ 0 < m) ∧ 0 < n ∧ ¬ n ≤ b ∨ r = false ∧ (0 < m ∧ ¬ m ≤ a) ∧ ¬ 0 < n ∨ r = false ∧ (0 < m ∧ ¬ m ≤ a) ∧ 0 < n ∧ ¬ n ≤ b := by
    subst hs
    by_cases h1 : 0 < m ∧ m ≤ a
    · exact .inl ⟨by simp [h1], h1⟩
    · by_cases h2 : 0 < n ∧ n ≤ b
      · simp only [h2, and_self, decide_true, Bool.or_true, true_and, and_true]; omega
      · simp only [h1, h2, decide_false, Bool.or_false, Bool.false_eq_true, false_and, false_or, true_and]; omega
  clear hs
  have HS : Hid (r = r) := Lib.hid rfl
  rcases way with ⟨rfl, h1, h2⟩ | ⟨rfl, h1, h2, h3⟩ | ⟨rfl, ⟨h1, h2⟩, h3, h4⟩ | ⟨rfl, h1, h2⟩ | ⟨rfl, h1, h2, h3⟩ | ⟨rfl, ⟨h1, h2⟩, h3⟩ | ⟨rfl, ⟨h1, h2⟩, h3, h4⟩
  all_goals
    go_enter Try.func31, Try.ntmps31
    go_upto_region 1 with fail
    generalize World.alloc w _ = u at h0 ⊢
    generalize w.heap.size = gs at h0 ⊢
    have H0 := Lib.hid h0
    clear h0
    have k0_0 : u.cell? ⟨gs, 0, none⟩ = some (I a) := H0.out.cell 0 0 rfl rfl
    have k0_1 : u.cell? ⟨gs, 1, none⟩ = some (I b) := H0.out.cell 0 1 rfl rfl
    go_wp2
    go_ret
    exact ⟨rfl, H0.out.bel⟩
theorem aww1 : wat ⟨0, 0⟩ true = ⟨1, 0⟩ := by decide
theorem aww2 : wat ⟨1, 0⟩ true = ⟨2, 0⟩ := by decide
theorem aww3 : stk 2 0 ⟨2, 0⟩ = true := by decide
theorem aww4 : stk 3 1 ⟨2, 0⟩ = false := by decide
end Go.Proofs.Ytbmcendlpeaaeaa.Dig
