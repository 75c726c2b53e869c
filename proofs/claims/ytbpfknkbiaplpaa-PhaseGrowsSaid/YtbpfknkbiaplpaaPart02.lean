/- 5 texts in one file, in build order. -/
import Derived.Test.YtbpfknkbiaplpaaRows
import Derived.Test.YtbpfknkbiaplpaaPart01
import Derived.Deep.Cut
import Derived.StillTailTactics
set_option linter.unusedVariables false
set_option linter.unusedSimpArgs false
set_option linter.unusedSectionVars false
set_option maxHeartbeats 8000000
set_option maxRecDepth 100000
namespace Go.Proofs.Ytbpfknkbiaplpaa
namespace Gap
open Go.ChangeShapes Go.WideShapes Go.ChangeAt Go.RowKit
open Tab Flat TabArg
open May (infoP)
structure Tn where
  lim : Int
  up : Int
  down : Int
deriving DecidableEq
def Tn.cells (s : Tn) : List Value := [I s.lim, I s.up, I s.down]
theorem flTn5 : flat Try.prog 5 27 = some [3, 3, 3] := by kernel_rfl
section
variable {H : Type} {enc : TypeId × Value → H} {P : Program} {w : World} {base : Nat} {spare : Nat → Bool} {held : Bool}
end
theorem tn_eqs (a b c : Int) : Same.Eqs 27 [I a, I b, I c] [I a, I b, I c] true := by
  have := Same.eqs_of (p := True) flTn5 (by decide) (by kernel_rfl) [(I a, I a), (I b, I b), (I c, I c)] ⟨Same.lint _ _, Same.lint _ _, Same.lint _ _, trivial⟩ rfl rfl (by simp)
  simpa using this
theorem guardTn : Try.prog.eqGuardType Try.prog.depth 27 = false := by kernel_rfl
theorem infoTn : (Try.prog.info? 27).map (·.size) = some 3 := by kernel_rfl
theorem built1 (r : Int) : Try.prog.built 27 [(0, I r)] = some #[I r, I 0, I 0] := by kernel_rfl
theorem ret_int {k : IntKind} {a b : Int} (h : a = b) : Ending.returned (.int k a) = .returned (.int k b) := by rw [h]
/-- one step's number, wrapped -/
abbrev wr (n : Int) : Int := wrap64 n
def lm (p : Ph) (n : Int) : Int := if (if p.top < n then p.top else n) < p.max then p.max else if p.top < n then p.top else n
def lf (g n : Int) (b : Bool) : Int := if b = true then g else if 9999 < n then 9998 else if 0 < n then n - 1 else 0
def gr (p : Ph) (s : Tn) (b : Bool) : Tn :=
  if b = true then (if s.up < 1 then ⟨lm p s.lim, 1, 0⟩ else ⟨lm p (wr (lm p s.lim + p.step)), 0, 0⟩)
  else (if s.down < 1 then ⟨lm p s.lim, 0, 1⟩ else ⟨lm p (wr (lm p s.lim - p.step)), 0, 0⟩)
theorem wr_neg (a b : Int) : wr (a + wr (-b)) = wr (a - b) := by
  unfold wr wrap64; omega
theorem lim_any (p : Ph) (n u d : Int) (w : World) : Calls Try.prog 74 #[.agg p.cells.toArray, .agg #[I n, I u, I d]] w fun e w' => e = .returned (.int .i64 (lm p n)) ∧ Below w.heap.size w w' := by
  have h0 := ((Blk.Bks.nil w).alloc p.cells.toArray 23).alloc #[I n, I u, I d] 27
  rw [show (w.alloc (.cells p.cells.toArray 23)).heap.size = w.heap.size + 1 by simp] at h0
  have HE0 : Hid (lm p n = if (if p.top < n then p.top else n) < p.max then p.max else if p.top < n then p.top else n) := Lib.hid rfl
  obtain ⟨mx, hmx⟩ : ∃ m, p.max = m := ⟨_, rfl⟩
  obtain ⟨tp, htp⟩ : ∃ m, p.top = m := ⟨_, rfl⟩
  rw [hmx, htp] at HE0
  by_cases h1 : tp < n
  · by_cases h2 : tp < mx
    · have HE : Hid (lm p n = mx) := Lib.hid (by rw [HE0.out]; simp only [h1, h2, if_true, if_false])
      have em : min n tp = tp := by omega
      have ex : max (tp) mx = mx := by omega
      clear HE0
      go_enter Try.func74, Try.ntmps74
      go_upto_region 1 with fail
      generalize World.alloc (World.alloc w _) _ = v at h0 ⊢
      generalize hgs : w.heap.size + 1 = gs at h0 ⊢
      generalize w.heap.size = gp at h0 ⊢
      clear hgs
      have H0 := Lib.hid h0
      clear h0
      have k3 : v.cell? ⟨gp, 3, none⟩ = some (I p.max) := H0.out.cell 1 3 rfl rfl
      have k4 : v.cell? ⟨gp, 4, none⟩ = some (I p.top) := H0.out.cell 1 4 rfl rfl
      have c0 : v.cell? ⟨gs, 0, none⟩ = some (I n) := H0.out.cell 0 0 rfl rfl
      rw [hmx] at k3
      rw [htp] at k4
      clear hmx htp
      go_wp2
      go_ret
      exact ⟨ret_int (HE.out.symm), H0.out.bel⟩
    · have HE : Hid (lm p n = tp) := Lib.hid (by rw [HE0.out]; simp only [h1, h2, if_true, if_false])
      have em : min n tp = tp := by omega
      have ex : max (tp) mx = tp := by omega
      clear HE0
      go_enter Try.func74, Try.ntmps74
      go_upto_region 1 with fail
      generalize World.alloc (World.alloc w _) _ = v at h0 ⊢
      generalize hgs : w.heap.size + 1 = gs at h0 ⊢
      generalize w.heap.size = gp at h0 ⊢
      clear hgs
      have H0 := Lib.hid h0
      clear h0
      have k3 : v.cell? ⟨gp, 3, none⟩ = some (I p.max) := H0.out.cell 1 3 rfl rfl
      have k4 : v.cell? ⟨gp, 4, none⟩ = some (I p.top) := H0.out.cell 1 4 rfl rfl
      have c0 : v.cell? ⟨gs, 0, none⟩ = some (I n) := H0.out.cell 0 0 rfl rfl
      rw [hmx] at k3
      rw [htp] at k4
      clear hmx htp
      go_wp2
      go_ret
      exact ⟨ret_int (HE.out.symm), H0.out.bel⟩
  · by_cases h2 : n < mx
    · have HE : Hid (lm p n = mx) := Lib.hid (by rw [HE0.out]; simp only [h1, h2, if_true, if_false])
      have em : min n tp = n := by omega
      have ex : max (n) mx = mx := by omega
      clear HE0
      go_enter Try.func74, Try.ntmps74
      go_upto_region 1 with fail
      generalize World.alloc (World.alloc w _) _ = v at h0 ⊢
      generalize hgs : w.heap.size + 1 = gs at h0 ⊢
      generalize w.heap.size = gp at h0 ⊢
      clear hgs
      have H0 := Lib.hid h0
      clear h0
      have k3 : v.cell? ⟨gp, 3, none⟩ = some (I p.max) := H0.out.cell 1 3 rfl rfl
      have k4 : v.cell? ⟨gp, 4, none⟩ = some (I p.top) := H0.out.cell 1 4 rfl rfl
      have c0 : v.cell? ⟨gs, 0, none⟩ = some (I n) := H0.out.cell 0 0 rfl rfl
      rw [hmx] at k3
      rw [htp] at k4
      clear hmx htp
      go_wp2
      go_ret
      exact ⟨ret_int (HE.out.symm), H0.out.bel⟩
    · have HE : Hid (lm p n = n) := Lib.hid (by rw [HE0.out]; simp only [h1, h2, if_true, if_false])
      have em : min n tp = n := by omega
      have ex : max (n) mx = n := by omega
      clear HE0
      go_enter Try.func74, Try.ntmps74
      go_upto_region 1 with fail
      generalize World.alloc (World.alloc w _) _ = v at h0 ⊢
      generalize hgs : w.heap.size + 1 = gs at h0 ⊢
      generalize w.heap.size = gp at h0 ⊢
      clear hgs
      have H0 := Lib.hid h0
      clear h0
      have k3 : v.cell? ⟨gp, 3, none⟩ = some (I p.max) := H0.out.cell 1 3 rfl rfl
      have k4 : v.cell? ⟨gp, 4, none⟩ = some (I p.top) := H0.out.cell 1 4 rfl rfl
      have c0 : v.cell? ⟨gs, 0, none⟩ = some (I n) := H0.out.cell 0 0 rfl rfl
      rw [hmx] at k3
      rw [htp] at k4
      clear hmx htp
      go_wp2
      go_ret
      exact ⟨ret_int (HE.out.symm), H0.out.bel⟩
theorem rlim_any (p : Ph) (n u d : Int) (w : World) : Calls Try.prog 21 #[.agg p.cells.toArray, .agg #[I n, I u, I d]] w fun e w' => e = .returned (.int .i64 (lm p n)) ∧ Below w.heap.size w w' := by
  have h0 := ((Blk.Bks.nil w).alloc p.cells.toArray 23).alloc #[I n, I u, I d] 27
  rw [show (w.alloc (.cells p.cells.toArray 23)).heap.size = w.heap.size + 1 by simp] at h0
  have HE0 : Hid (lm p n = if (if p.top < n then p.top else n) < p.max then p.max else if p.top < n then p.top else n) := Lib.hid rfl
  obtain ⟨mx, hmx⟩ : ∃ m, p.max = m := ⟨_, rfl⟩
  obtain ⟨tp, htp⟩ : ∃ m, p.top = m := ⟨_, rfl⟩
  rw [hmx, htp] at HE0
  by_cases h1 : tp < n
  · by_cases h2 : tp < mx
    · have HE : Hid (lm p n = mx) := Lib.hid (by rw [HE0.out]; simp only [h1, h2, if_true, if_false])
      have em : min n tp = tp := by omega
      have ex : max (tp) mx = mx := by omega
      clear HE0
      go_enter Try.func21, Try.ntmps21
      go_upto_region 1 with fail
      generalize World.alloc (World.alloc w _) _ = v at h0 ⊢
      generalize hgs : w.heap.size + 1 = gs at h0 ⊢
      generalize w.heap.size = gp at h0 ⊢
      clear hgs
      have H0 := Lib.hid h0
      clear h0
      have k3 : v.cell? ⟨gp, 3, none⟩ = some (I p.max) := H0.out.cell 1 3 rfl rfl
      have k4 : v.cell? ⟨gp, 4, none⟩ = some (I p.top) := H0.out.cell 1 4 rfl rfl
      have c0 : v.cell? ⟨gs, 0, none⟩ = some (I n) := H0.out.cell 0 0 rfl rfl
      rw [hmx] at k3
      rw [htp] at k4
      clear hmx htp
      go_wp2
      go_ret
      exact ⟨ret_int (HE.out.symm), H0.out.bel⟩
    · have HE : Hid (lm p n = tp) := Lib.hid (by rw [HE0.out]; simp only [h1, h2, if_true, if_false])
      have em : min n tp = tp := by omega
      have ex : max (tp) mx = tp := by omega
      clear HE0
      go_enter Try.func21, Try.ntmps21
      go_upto_region 1 with fail
      generalize World.alloc (World.alloc w _) _ = v at h0 ⊢
      generalize hgs : w.heap.size + 1 = gs at h0 ⊢
      generalize w.heap.size = gp at h0 ⊢
      clear hgs
      have H0 := Lib.hid h0
      clear h0
      have k3 : v.cell? ⟨gp, 3, none⟩ = some (I p.max) := H0.out.cell 1 3 rfl rfl
      have k4 : v.cell? ⟨gp, 4, none⟩ = some (I p.top) := H0.out.cell 1 4 rfl rfl
      have c0 : v.cell? ⟨gs, 0, none⟩ = some (I n) := H0.out.cell 0 0 rfl rfl
      rw [hmx] at k3
      rw [htp] at k4
      clear hmx htp
      go_wp2
      go_ret
      exact ⟨ret_int (HE.out.symm), H0.out.bel⟩
  · by_cases h2 : n < mx
    · have HE : Hid (lm p n = mx) := Lib.hid (by rw [HE0.out]; simp only [h1, h2, if_true, if_false])
      have em : min n tp = n := by omega
      have ex : max (n) mx = mx := by omega
      clear HE0
      go_enter Try.func21, Try.ntmps21
      go_upto_region 1 with fail
      generalize World.alloc (World.alloc w _) _ = v at h0 ⊢
      generalize hgs : w.heap.size + 1 = gs at h0 ⊢
      generalize w.heap.size = gp at h0 ⊢
      clear hgs
      have H0 := Lib.hid h0
      clear h0
      have k3 : v.cell? ⟨gp, 3, none⟩ = some (I p.max) := H0.out.cell 1 3 rfl rfl
      have k4 : v.cell? ⟨gp, 4, none⟩ = some (I p.top) := H0.out.cell 1 4 rfl rfl
      have c0 : v.cell? ⟨gs, 0, none⟩ = some (I n) := H0.out.cell 0 0 rfl rfl
      rw [hmx] at k3
      rw [htp] at k4
      clear hmx htp
      go_wp2
      go_ret
      exact ⟨ret_int (HE.out.symm), H0.out.bel⟩
    · have HE : Hid (lm p n = n) := Lib.hid (by rw [HE0.out]; simp only [h1, h2, if_true, if_false])
      have em : min n tp = n := by omega
      have ex : max (n) mx = n := by omega
      clear HE0
      go_enter Try.func21, Try.ntmps21
      go_upto_region 1 with fail
      generalize World.alloc (World.alloc w _) _ = v at h0 ⊢
      generalize hgs : w.heap.size + 1 = gs at h0 ⊢
      generalize w.heap.size = gp at h0 ⊢
      clear hgs
      have H0 := Lib.hid h0
      clear h0
      have k3 : v.cell? ⟨gp, 3, none⟩ = some (I p.max) := H0.out.cell 1 3 rfl rfl
      have k4 : v.cell? ⟨gp, 4, none⟩ = some (I p.top) := H0.out.cell 1 4 rfl rfl
      have c0 : v.cell? ⟨gs, 0, none⟩ = some (I n) := H0.out.cell 0 0 rfl rfl
      rw [hmx] at k3
      rw [htp] at k4
      clear hmx htp
      go_wp2
      go_ret
      exact ⟨ret_int (HE.out.symm), H0.out.bel⟩
def ls (n : Int) : Int := if 9999 < n then 9998 else if 0 < n then n - 1 else 0
theorem less_any (n : Int) (w : World) : Calls Try.prog 73 #[.int .i64 n] w fun e w' => e = .returned (.int .i64 (ls n)) ∧ w = w' := by
  have h0 := Cnt.ct_lo (n := n) (a := 0) (b := 9999) (by decide)
  have h1 := Cnt.ct_hi (n := n) (a := 0) (b := 9999) (by decide)
  have hl : ls n = if Cnt.ct n 0 9999 = 0 then 0 else Cnt.ct n 0 9999 - 1 := by unfold ls Cnt.ct; split <;> (try split) <;> (try split) <;> (try split) <;> omega
  obtain ⟨c, hc⟩ : ∃ c, Cnt.ct n 0 9999 = c := ⟨_, rfl⟩
  have CC : Hid (∀ W, Calls Try.prog 38 #[.int .i64 n, .int .i64 0, .int .i64 9999] W fun e w' => e = .returned (.int .i64 c) ∧ W = w') := Lib.hid (fun W => by rw [← hc]; exact Cnt.rcut_any n 0 9999 W)
  rw [hc] at h0 h1 hl
  clear hc
  by_cases hz : c = 0
  · have HE : Hid (ls n = 0) := Lib.hid (by rw [hl, if_pos hz])
    subst hz
    clear hl h0 h1
    go_enter Try.func73, Try.ntmps73
    go_wp2_with (go_at_call 38; refine (CC.out _).mono ?_; rintro e w' ⟨rfl, rfl⟩)
    go_ret
    exact ⟨ret_int HE.out.symm, rfl⟩
  · have HE : Hid (ls n = c - 1) := Lib.hid (by rw [hl, if_neg hz])
    have em : IntKind.i64.wrap (c - 1) = c - 1 := by rw [IntKind.wrap_i64]; omega
    clear hl
    go_enter Try.func73, Try.ntmps73
    go_wp2_with (go_at_call 38; refine (CC.out _).mono ?_; rintro e w' ⟨rfl, rfl⟩)
    go_ret
    exact ⟨ret_int HE.out.symm, rfl⟩
theorem left_any (p : Ph) (n : Int) (b : Bool) (w : World) : Calls Try.prog 57 #[.agg p.cells.toArray, .int .i64 n, .bool b] w fun e w' => e = .returned (.int .i64 (lf p.gap n b)) ∧ Below w.heap.size w w' := by
  have h0 := (Blk.Bks.nil w).alloc p.cells.toArray 23
  cases b
  · by_cases h1 : 9999 < n
    · have HE : Hid (lf p.gap n false = 9998) := Lib.hid (by unfold lf; simp [h1])
      go_enter Try.func57, Try.ntmps57
      go_upto_region 1 with fail
      generalize World.alloc w _ = v at h0 ⊢
      generalize w.heap.size = gp at h0 ⊢
      have H0 := Lib.hid h0
      clear h0
      have k2 : v.cell? ⟨gp, 2, none⟩ = some (I p.gap) := H0.out.cell 0 2 rfl rfl
      go_wp2_with fail
      go_ret
      exact ⟨ret_int HE.out.symm, H0.out.bel⟩
    · by_cases h2 : 0 < n
      · have em : IntKind.i64.wrap (n - 1) = n - 1 := by rw [IntKind.wrap_i64]; omega
        have HE : Hid (lf p.gap n false = n - 1) := Lib.hid (by unfold lf; simp [h1, h2])
        go_enter Try.func57, Try.ntmps57
        go_upto_region 1 with fail
        generalize World.alloc w _ = v at h0 ⊢
        generalize w.heap.size = gp at h0 ⊢
        have H0 := Lib.hid h0
        clear h0
        have k2 : v.cell? ⟨gp, 2, none⟩ = some (I p.gap) := H0.out.cell 0 2 rfl rfl
        go_wp2_with fail
        go_ret
        exact ⟨ret_int HE.out.symm, H0.out.bel⟩
      · have HE : Hid (lf p.gap n false = 0) := Lib.hid (by unfold lf; simp [h1, h2])
        go_enter Try.func57, Try.ntmps57
        go_upto_region 1 with fail
        generalize World.alloc w _ = v at h0 ⊢
        generalize w.heap.size = gp at h0 ⊢
        have H0 := Lib.hid h0
        clear h0
        have k2 : v.cell? ⟨gp, 2, none⟩ = some (I p.gap) := H0.out.cell 0 2 rfl rfl
        go_wp2_with fail
        go_ret
        exact ⟨ret_int HE.out.symm, H0.out.bel⟩
  · have HE : Hid (lf p.gap n true = p.gap) := Lib.hid (by unfold lf; simp [])
    go_enter Try.func57, Try.ntmps57
    go_upto_region 1 with fail
    generalize World.alloc w _ = v at h0 ⊢
    generalize w.heap.size = gp at h0 ⊢
    have H0 := Lib.hid h0
    clear h0
    have k2 : v.cell? ⟨gp, 2, none⟩ = some (I p.gap) := H0.out.cell 0 2 rfl rfl
    go_wp2_with fail
    go_ret
    exact ⟨ret_int HE.out.symm, H0.out.bel⟩
theorem rleft_any (p : Ph) (n : Int) (b : Bool) (w : World) : Calls Try.prog 51 #[.agg p.cells.toArray, .int .i64 n, .bool b] w fun e w' => e = .returned (.int .i64 (lf p.gap n b)) ∧ Below w.heap.size w w' := by
  have h0 := (Blk.Bks.nil w).alloc p.cells.toArray 23
  cases b
  · have HE : Hid (lf p.gap n false = ls n) := Lib.hid (by unfold lf ls; simp)
    go_enter Try.func51, Try.ntmps51
    go_upto_region 1 with fail
    generalize World.alloc w _ = v at h0 ⊢
    generalize w.heap.size = gp at h0 ⊢
    have H0 := Lib.hid h0
    clear h0
    have k2 : v.cell? ⟨gp, 2, none⟩ = some (I p.gap) := H0.out.cell 0 2 rfl rfl
    go_wp2_with (go_at_call 73; refine (less_any _ _).mono ?_; rintro e w' ⟨rfl, rfl⟩)
    go_ret
    exact ⟨ret_int HE.out.symm, H0.out.bel⟩
  · have HE : Hid (lf p.gap n true = p.gap) := Lib.hid (by unfold lf; simp [])
    go_enter Try.func51, Try.ntmps51
    go_upto_region 1 with fail
    generalize World.alloc w _ = v at h0 ⊢
    generalize w.heap.size = gp at h0 ⊢
    have H0 := Lib.hid h0
    clear h0
    have k2 : v.cell? ⟨gp, 2, none⟩ = some (I p.gap) := H0.out.cell 0 2 rfl rfl
    go_wp2_with (go_at_call 73; refine (less_any _ _).mono ?_; rintro e w' ⟨rfl, rfl⟩)
    go_ret
    exact ⟨ret_int HE.out.symm, H0.out.bel⟩
theorem begin_any (p : Ph) (w : World) : Calls Try.prog 29 #[.agg p.cells.toArray] w fun e w' => e = .returned (.agg #[I p.max, I 0, I 0]) ∧ Below w.heap.size w w' := by
  have h0 := ((Blk.Bks.nil w).alloc p.cells.toArray 23).alloc #[I 0, I 0, I 0] 27
  rw [show (w.alloc (.cells p.cells.toArray 23)).heap.size = w.heap.size + 1 by simp] at h0
  go_enter Try.func29, Try.ntmps29
  go_upto_region 1 with fail
  generalize World.alloc (World.alloc w _) _ = v at h0 ⊢
  generalize hgz : w.heap.size + 1 = gz at h0 ⊢
  generalize w.heap.size = gp at h0 ⊢
  clear hgz
  have H0 := Lib.hid h0
  clear h0
  have k3 : v.cell? ⟨gp, 3, none⟩ = some (I p.max) := H0.out.cell 1 3 rfl rfl
  go_wp2_with (refine wpList_store_row rfl 27 _ _ rfl gz #[I p.max, I 0, I 0] rfl rfl 27 _ (H0.out.at 0 rfl) infoTn rfl (by simp [Value.oneCell']) ?_)
  have hput := H0.out.put 0 rfl #[I p.max, I 0, I 0]
  simp only [List.set_cons_succ, List.set_cons_zero] at hput
  generalize World.setRow v gz _ = v2 at hput ⊢
  have HG := Lib.hid hput
  clear hput
  go_wp2_with fail
  (try simp only [Exit.inBlock, Exit.then])
  refine bodyPost_ret (v := .agg #[I p.max, I 0, I 0]) ?_ rfl ⟨rfl, HG.out.bel⟩
  exact results_cell_row rfl _ _ gz 27 _ (0, 0) _ rfl (HG.out.at 0 rfl) Try.underlying27 rfl infoTn
end Gap
namespace Gap
open Go.ChangeShapes Go.WideShapes Go.ChangeAt Go.RowKit
open Tab Flat TabArg
open May (infoP)
theorem grow_is {p : Ph} {n u d l' u' d' : Int} {b : Bool} (hs : gr p ⟨n, u, d⟩ b = ⟨l', u', d'⟩) (w : World) : Calls Try.prog 70 #[.agg p.cells.toArray, .agg #[I n, I u, I d], .bool b] w fun e w' => e = .returned (.agg #[I l', I u', I d']) ∧ Below w.heap.size w w' := by
  have h0 := (((Blk.Bks.nil w).alloc p.cells.toArray 23).alloc #[I n, I u, I d] 27).alloc #[I 0, I 0, I 0] 27
  rw [show ((w.alloc (.cells p.cells.toArray 23)).alloc (.cells #[I n, I u, I d] 27)).heap.size = w.heap.size + 1 + 1 by simp, show (w.alloc (.cells p.cells.toArray 23)).heap.size = w.heap.size + 1 by simp] at h0
  have HS := Lib.hid hs
  clear hs
  obtain ⟨r, hr⟩ : ∃ r, lm p n = r := ⟨_, rfl⟩
  have HR := Lib.hid hr
  have LM : Hid (∀ W, Calls Try.prog 74 #[.agg p.cells.toArray, .agg #[I n, I u, I d]] W fun e w' => e = .returned (.int .i64 r) ∧ Below W.heap.size W w') := Lib.hid (fun W => by rw [← hr]; exact lim_any p n u d W)
  clear hr
  go_enter Try.func70, Try.ntmps70
  go_upto_region 1 with fail
  generalize World.alloc (World.alloc (World.alloc w _) _) _ = v0 at h0 ⊢
  generalize hgz : w.heap.size + 1 + 1 = gz at h0 ⊢
  generalize hgs : w.heap.size + 1 = gs at h0 ⊢
  generalize w.heap.size = gp at h0 ⊢
  clear hgz hgs
  have H0 := Lib.hid h0
  clear h0
  have LP : Hid (∀ W, Below v0.heap.size v0 W → Lies W ⟨gp, 0, none⟩ p.cells) := Lib.hid (fun W hb => by have := Row.lies_of_block ((H0.out.step hb).at 2 rfl); simpa using this)
  have LS : Hid (∀ W, Below v0.heap.size v0 W → Lies W ⟨gs, 0, none⟩ [I n, I u, I d]) := Lib.hid (fun W hb => by have := Row.lies_of_block ((H0.out.step hb).at 1 rfl); simpa using this)
  have LC : Hid (∀ W, Below v0.heap.size v0 W → W.cell? ⟨gp, 5, none⟩ = some (I p.step)) := Lib.hid (fun W hb => (H0.out.step hb).cell 2 5 rfl rfl)
  go_cut [7, 8] from 9 (fun t7 t8 wx => ∃ g, t7 = .pointer (some ⟨g, 0, none⟩) ∧ t8 = .int .i64 p.step ∧ Blk.Bks w ((g, #[I r, I 0, I 0], 27) :: (gz, #[I 0, I 0, I 0], 27) :: (gs, #[I n, I u, I d], 27) :: (gp, p.cells.toArray, 23) :: []) wx)
  case first =>
    refine wp_region_held (S := fun w' => Below v0.heap.size v0 w') (by kernel_rfl) ?_
    have hS : Below v0.heap.size v0 { v0 with drawn := v0.drawn + 1 } := (Below.refl _ _).drew
    generalize ({ v0 with drawn := v0.drawn + 1 } : World) = v at hS ⊢
    refine Held.take_load (i := 0) (some 9) rfl 23 (.tmp 3) ⟨gp, 0, none⟩ p.cells _ rfl rfl (by kernel_rfl) (by kernel_rfl) (by kernel_rfl) (fun _ _ _ h => h) (by rfl) hS rfl (fun w' hw' => LP.out w' hw') Try.underlying23 rfl infoP ?_
    (try dsimp only [Act.put]); (try simp only [List.setIfInBounds_toArray, List.set_cons_zero, List.set_cons_succ])
    refine Held.take_load (i := 1) (some 10) rfl 27 (.tmp 4) ⟨gs, 0, none⟩ [I n, I u, I d] _ rfl rfl (by kernel_rfl) (by kernel_rfl) (by kernel_rfl) (fun _ _ _ h => h) (by rfl) hS rfl (fun w' hw' => LS.out w' hw') Try.underlying27 rfl infoTn ?_
    (try dsimp only [Act.put]); (try simp only [List.setIfInBounds_toArray, List.set_cons_zero, List.set_cons_succ])
    refine Held.take (i := 4) (some 13) rfl (v := ?_) rfl (by kernel_rfl) (by kernel_rfl) (by kernel_rfl) (fun _ _ _ h => h) (Or.inl ⟨by rfl, ?_⟩) hS ?_
    rotate_left
    · intro w' hw'
      go_simp
      try with_reducible rfl
    (try dsimp only [Act.put]); (try simp only [List.setIfInBounds_toArray, List.set_cons_zero, List.set_cons_succ])
    refine Held.take (i := 5) (some 14) rfl (v := ?_) rfl (by kernel_rfl) (by kernel_rfl) (by kernel_rfl) (fun _ _ _ h => h) (Or.inl ⟨by rfl, ?_⟩) hS ?_
    rotate_left
    · intro w' hw'
      have cf := LC.out w' hw'
      go_simp
      try with_reducible rfl
    (try dsimp only [Act.put]); (try simp only [List.setIfInBounds_toArray, List.set_cons_zero, List.set_cons_succ])
    refine wpAnyH_ready (rs := [2, 6]) (by kernel_rfl) (by simp) (AllReadyH.cons rfl (fun K hK => ?_) (AllReadyH.cons rfl (fun K hK => ?_) AllReadyH.nil))
    · go_simp
      refine (LM.out _).mono ?_
      rintro e vc ⟨rfl, hb⟩
      have hq := hS.trans (hb.mono hS.size)
      clear hS hb
      go_simp
      refine hK.out _ _ hq (fun hS => ?_)
      clear hK K hq
      (try dsimp only [Act.put]); (try simp only [List.setIfInBounds_toArray, List.set_cons_zero, List.set_cons_succ])
      refine Held.take_build (i := 3) (some 12) rfl 27 #[(0, .tmp 11)] #[I r, I 0, I 0] rfl rfl (by kernel_rfl) (by kernel_rfl) (by kernel_rfl) (fun _ _ _ h => h) (by rfl) hS (by have h := built1 r; first | (simp [Act.eval]; exact h) | (go_simp; exact h)) ?_
      (try dsimp only [Act.put]); (try simp only [List.setIfInBounds_toArray, List.set_cons_zero, List.set_cons_succ])
      refine wpAnyH_ready (rs := [6]) (by kernel_rfl) (by simp) (AllReadyH.cons rfl (fun K hK => ?_) AllReadyH.nil)
      go_simp
      have ha := (H0.out.step hS).alloc #[I 0, I 0, I 0] 27
      have HGE := Lib.hid hS.size
      have hq := hS.alloc hS.size (.cells #[I 0, I 0, I 0] 27)
      clear hS
      generalize vc.heap.size = ga at ha HGE ⊢
      generalize World.alloc vc _ = va at ha hq ⊢
      have HA := Lib.hid ha
      clear ha
      refine hK.out _ _ hq (fun hS => ?_)
      clear hK K hq
      (try dsimp only [Act.put]); (try simp only [List.setIfInBounds_toArray, List.set_cons_zero, List.set_cons_succ])
      have HB1 := HA
      refine wpAnyH_ready (rs := [7]) (by kernel_rfl) (by simp) (AllReadyH.cons rfl (fun K hK => ?_) AllReadyH.nil)
      rw [if_pos (by rfl)]
      refine wp_store_row 27 _ _ rfl ga #[I r, I 0, I 0] rfl rfl 27 _ (HB1.out.at 0 rfl) infoTn rfl (by simp [Value.oneCell']) ?_
      have hq := below_setRow hS (g := ga) HGE.out #[I r, I 0, I 0]
      have hput := HB1.out.put 0 rfl #[I r, I 0, I 0]
      simp only [List.set_cons_succ, List.set_cons_zero] at hput
      generalize World.setRow _ ga _ = vs at hput hq ⊢
      have HC := Lib.hid hput
      clear hput
      refine hK.out _ _ hq (fun hS => ?_)
      clear hK K hq
      (try simp only [List.getElem_toArray, List.getElem_cons_succ, List.getElem_cons_zero])
      (try dsimp only [Act.put]); (try simp only [List.setIfInBounds_toArray, List.set_cons_zero, List.set_cons_succ])
      refine Held.take (i := 8) (some 8) rfl (v := ?_) rfl (by kernel_rfl) (by kernel_rfl) (by kernel_rfl) (fun _ _ _ h => h) (Or.inl ⟨by rfl, ?_⟩) hS ?_
      rotate_left
      · intro w' hw'
        go_simp
        try with_reducible rfl
      (try dsimp only [Act.put]); (try simp only [List.setIfInBounds_toArray, List.set_cons_zero, List.set_cons_succ])
      refine wpAnyH_done (by kernel_rfl) ?_ _
      go_wp2_with fail
      go_meet
      case rel => exact ⟨ga, rfl, rfl, HC.out⟩
    · go_simp
      have ha := (H0.out.step hS).alloc #[I 0, I 0, I 0] 27
      have HGE := Lib.hid hS.size
      have hq := hS.alloc hS.size (.cells #[I 0, I 0, I 0] 27)
      clear hS
      generalize v.heap.size = ga at ha HGE ⊢
      generalize World.alloc v _ = va at ha hq ⊢
      have HA := Lib.hid ha
      clear ha
      refine hK.out _ _ hq (fun hS => ?_)
      clear hK K hq
      (try dsimp only [Act.put]); (try simp only [List.setIfInBounds_toArray, List.set_cons_zero, List.set_cons_succ])
      refine wpAnyH_ready (rs := [2]) (by kernel_rfl) (by simp) (AllReadyH.cons rfl (fun K hK => ?_) AllReadyH.nil)
      go_simp
      refine (LM.out _).mono ?_
      rintro e vc ⟨rfl, hb⟩
      have hq := hS.trans (hb.mono hS.size)
      have HA2 := Lib.hid (HA.out.step hb)
      clear HA
      have HA := HA2
      clear hS hb
      go_simp
      refine hK.out _ _ hq (fun hS => ?_)
      clear hK K hq
      (try dsimp only [Act.put]); (try simp only [List.setIfInBounds_toArray, List.set_cons_zero, List.set_cons_succ])
      refine Held.take_build (i := 3) (some 12) rfl 27 #[(0, .tmp 11)] #[I r, I 0, I 0] rfl rfl (by kernel_rfl) (by kernel_rfl) (by kernel_rfl) (fun _ _ _ h => h) (by rfl) hS (by have h := built1 r; first | (simp [Act.eval]; exact h) | (go_simp; exact h)) ?_
      (try dsimp only [Act.put]); (try simp only [List.setIfInBounds_toArray, List.set_cons_zero, List.set_cons_succ])
      have HB1 := HA
      refine wpAnyH_ready (rs := [7]) (by kernel_rfl) (by simp) (AllReadyH.cons rfl (fun K hK => ?_) AllReadyH.nil)
      rw [if_pos (by rfl)]
      refine wp_store_row 27 _ _ rfl ga #[I r, I 0, I 0] rfl rfl 27 _ (HB1.out.at 0 rfl) infoTn rfl (by simp [Value.oneCell']) ?_
      have hq := below_setRow hS (g := ga) HGE.out #[I r, I 0, I 0]
      have hput := HB1.out.put 0 rfl #[I r, I 0, I 0]
      simp only [List.set_cons_succ, List.set_cons_zero] at hput
      generalize World.setRow _ ga _ = vs at hput hq ⊢
      have HC := Lib.hid hput
      clear hput
      refine hK.out _ _ hq (fun hS => ?_)
      clear hK K hq
      (try simp only [List.getElem_toArray, List.getElem_cons_succ, List.getElem_cons_zero])
      (try dsimp only [Act.put]); (try simp only [List.setIfInBounds_toArray, List.set_cons_zero, List.set_cons_succ])
      refine Held.take (i := 8) (some 8) rfl (v := ?_) rfl (by kernel_rfl) (by kernel_rfl) (by kernel_rfl) (fun _ _ _ h => h) (Or.inl ⟨by rfl, ?_⟩) hS ?_
      rotate_left
      · intro w' hw'
        go_simp
        try with_reducible rfl
      (try dsimp only [Act.put]); (try simp only [List.setIfInBounds_toArray, List.set_cons_zero, List.set_cons_succ])
      refine wpAnyH_done (by kernel_rfl) ?_ _
      go_wp2_with fail
      go_meet
      case rel => exact ⟨ga, rfl, rfl, HC.out⟩
  case rest =>
  obtain ⟨g, rfl, rfl, hB⟩ := hcut
  rename World => wx
  have HB := Lib.hid hB
  clear hB
  cases b
  · by_cases hx : d < 1
    · have hx2 := HS.out
      unfold gr at hx2
      rw [if_neg (by simp), if_pos hx] at hx2
      dsimp only at hx2
      rw [HR.out] at hx2
      injection hx2 with e1 e2 e3
      have HV : Hid (Ending.returned (Value.agg #[I r, I 0, I 1]) = Ending.returned (Value.agg #[I l', I u', I d'])) := Lib.hid (by rw [← e1, ← e2, ← e3])
      clear e1 e2 e3
      have c1 : wx.cell? ⟨gs, 1, none⟩ = some (I u) := HB.out.cell 2 1 rfl rfl
      have c2 : wx.cell? ⟨gs, 2, none⟩ = some (I d) := HB.out.cell 2 2 rfl rfl
      have kg : wx.cell? ⟨g, 2, none⟩ = some (I 0) := HB.out.cell 0 2 rfl rfl
      have fg : wx.frozen? ⟨g, 2, none⟩ = false := HB.out.frozen 0 2 rfl
      go_upto_region 9 with fail
      have hput := HB.out.set 0 2 rfl (I 1)
      simp only [List.set_cons_succ, List.set_cons_zero, List.setIfInBounds_toArray] at hput
      generalize World.setCell _ _ _ = v2 at hput ⊢
      have HC := Lib.hid hput
      clear hput
      go_wp2_with (first | (refine Row.wpList_load_g 27 _ rfl (by first | rfl | go_simp) ⟨g, 0, none⟩ rfl [I r, I 0, I 1] _ (by have := Row.lies_of_block (HC.out.at 0 rfl); simpa using this) Try.underlying27 rfl infoTn ?_) | (refine wpList_store_row rfl 27 _ _ rfl gz #[I r, I 0, I 1] rfl rfl 27 _ (HC.out.at 1 rfl) infoTn rfl (by simp [Value.oneCell']) ?_))
      have hput := HC.out.put 1 rfl #[I r, I 0, I 1]
      simp only [List.set_cons_succ, List.set_cons_zero] at hput
      generalize World.setRow _ gz _ = v4 at hput ⊢
      have HG := Lib.hid hput
      clear hput
      go_wp2_with fail
      (try simp only [Exit.inBlock, Exit.then])
      refine bodyPost_ret (v := .agg #[I r, I 0, I 1]) ?_ rfl ⟨HV.out, HG.out.bel⟩
      exact results_cell_row rfl _ _ gz 27 _ (0, 0) _ rfl (HG.out.at 1 rfl) Try.underlying27 rfl infoTn
    · have hx2 := HS.out
      unfold gr at hx2
      rw [if_neg (by simp), if_neg hx] at hx2
      dsimp only at hx2
      rw [HR.out] at hx2
      obtain ⟨q, hq⟩ : ∃ q, lm p (wr (r - p.step)) = q := ⟨_, rfl⟩
      rw [hq] at hx2
      have HQ : Hid (∀ W, Calls Try.prog 74 #[.agg p.cells.toArray, .agg #[.int .i64 (wrap64 (r + wrap64 (-p.step))), I 0, I 0]] W fun e w' => e = .returned (.int .i64 q) ∧ Below W.heap.size W w') := Lib.hid (fun W => by rw [← hq]; rw [← wr_neg]; exact lim_any p _ 0 0 W)
      clear hq
      injection hx2 with e1 e2 e3
      have HV : Hid (Ending.returned (Value.agg #[I q, I 0, I 0]) = Ending.returned (Value.agg #[I l', I u', I d'])) := Lib.hid (by rw [← e1, ← e2, ← e3])
      clear e1 e2 e3
      have c1 : wx.cell? ⟨gs, 1, none⟩ = some (I u) := HB.out.cell 2 1 rfl rfl
      have c2 : wx.cell? ⟨gs, 2, none⟩ = some (I d) := HB.out.cell 2 2 rfl rfl
      have kg : wx.cell? ⟨g, 0, none⟩ = some (I r) := HB.out.cell 0 0 rfl rfl
      go_wp2_with (first | (refine Row.wpList_load_g 23 _ rfl (by first | rfl | go_simp) ⟨gp, 0, none⟩ rfl p.cells _ (by have := Row.lies_of_block (HB.out.at 3 rfl); simpa using this) Try.underlying23 rfl infoP ?_) | fail)
      refine (HQ.out _).mono ?_
      rintro e vd ⟨rfl, hb⟩
      have HB2 := Lib.hid (HB.out.step hb)
      clear hb kg
      have kg : vd.cell? ⟨g, 0, none⟩ = some (I r) := HB2.out.cell 0 0 rfl rfl
      have fg : vd.frozen? ⟨g, 0, none⟩ = false := HB2.out.frozen 0 0 rfl
      go_upto_region 9 with fail
      have hput := HB2.out.set 0 0 rfl (I q)
      simp only [List.set_cons_succ, List.set_cons_zero, List.setIfInBounds_toArray] at hput
      generalize World.setCell _ _ _ = v2 at hput ⊢
      have HC := Lib.hid hput
      clear hput
      go_wp2_with (first | (refine Row.wpList_load_g 27 _ rfl (by first | rfl | go_simp) ⟨g, 0, none⟩ rfl [I q, I 0, I 0] _ (by have := Row.lies_of_block (HC.out.at 0 rfl); simpa using this) Try.underlying27 rfl infoTn ?_) | (refine wpList_store_row rfl 27 _ _ rfl gz #[I q, I 0, I 0] rfl rfl 27 _ (HC.out.at 1 rfl) infoTn rfl (by simp [Value.oneCell']) ?_))
      have hput := HC.out.put 1 rfl #[I q, I 0, I 0]
      simp only [List.set_cons_succ, List.set_cons_zero] at hput
      generalize World.setRow _ gz _ = v4 at hput ⊢
      have HG := Lib.hid hput
      clear hput
      go_wp2_with fail
      (try simp only [Exit.inBlock, Exit.then])
      refine bodyPost_ret (v := .agg #[I q, I 0, I 0]) ?_ rfl ⟨HV.out, HG.out.bel⟩
      exact results_cell_row rfl _ _ gz 27 _ (0, 0) _ rfl (HG.out.at 1 rfl) Try.underlying27 rfl infoTn
  · by_cases hx : u < 1
    · have hx2 := HS.out
      unfold gr at hx2
      rw [if_pos rfl, if_pos hx] at hx2
      dsimp only at hx2
      rw [HR.out] at hx2
      injection hx2 with e1 e2 e3
      have HV : Hid (Ending.returned (Value.agg #[I r, I 1, I 0]) = Ending.returned (Value.agg #[I l', I u', I d'])) := Lib.hid (by rw [← e1, ← e2, ← e3])
      clear e1 e2 e3
      have c1 : wx.cell? ⟨gs, 1, none⟩ = some (I u) := HB.out.cell 2 1 rfl rfl
      have c2 : wx.cell? ⟨gs, 2, none⟩ = some (I d) := HB.out.cell 2 2 rfl rfl
      have kg : wx.cell? ⟨g, 1, none⟩ = some (I 0) := HB.out.cell 0 1 rfl rfl
      have fg : wx.frozen? ⟨g, 1, none⟩ = false := HB.out.frozen 0 1 rfl
      go_upto_region 9 with fail
      have hput := HB.out.set 0 1 rfl (I 1)
      simp only [List.set_cons_succ, List.set_cons_zero, List.setIfInBounds_toArray] at hput
      generalize World.setCell _ _ _ = v2 at hput ⊢
      have HC := Lib.hid hput
      clear hput
      go_wp2_with (first | (refine Row.wpList_load_g 27 _ rfl (by first | rfl | go_simp) ⟨g, 0, none⟩ rfl [I r, I 1, I 0] _ (by have := Row.lies_of_block (HC.out.at 0 rfl); simpa using this) Try.underlying27 rfl infoTn ?_) | (refine wpList_store_row rfl 27 _ _ rfl gz #[I r, I 1, I 0] rfl rfl 27 _ (HC.out.at 1 rfl) infoTn rfl (by simp [Value.oneCell']) ?_))
      have hput := HC.out.put 1 rfl #[I r, I 1, I 0]
      simp only [List.set_cons_succ, List.set_cons_zero] at hput
      generalize World.setRow _ gz _ = v4 at hput ⊢
      have HG := Lib.hid hput
      clear hput
      go_wp2_with fail
      (try simp only [Exit.inBlock, Exit.then])
      refine bodyPost_ret (v := .agg #[I r, I 1, I 0]) ?_ rfl ⟨HV.out, HG.out.bel⟩
      exact results_cell_row rfl _ _ gz 27 _ (0, 0) _ rfl (HG.out.at 1 rfl) Try.underlying27 rfl infoTn
    · have hx2 := HS.out
      unfold gr at hx2
      rw [if_pos rfl, if_neg hx] at hx2
      dsimp only at hx2
      rw [HR.out] at hx2
      obtain ⟨q, hq⟩ : ∃ q, lm p (wr (r + p.step)) = q := ⟨_, rfl⟩
      rw [hq] at hx2
      have HQ : Hid (∀ W, Calls Try.prog 74 #[.agg p.cells.toArray, .agg #[.int .i64 (wrap64 (r + p.step)), I 0, I 0]] W fun e w' => e = .returned (.int .i64 q) ∧ Below W.heap.size W w') := Lib.hid (fun W => by rw [← hq]; exact lim_any p _ 0 0 W)
      clear hq
      injection hx2 with e1 e2 e3
      have HV : Hid (Ending.returned (Value.agg #[I q, I 0, I 0]) = Ending.returned (Value.agg #[I l', I u', I d'])) := Lib.hid (by rw [← e1, ← e2, ← e3])
      clear e1 e2 e3
      have c1 : wx.cell? ⟨gs, 1, none⟩ = some (I u) := HB.out.cell 2 1 rfl rfl
      have c2 : wx.cell? ⟨gs, 2, none⟩ = some (I d) := HB.out.cell 2 2 rfl rfl
      have kg : wx.cell? ⟨g, 0, none⟩ = some (I r) := HB.out.cell 0 0 rfl rfl
      go_wp2_with (first | (refine Row.wpList_load_g 23 _ rfl (by first | rfl | go_simp) ⟨gp, 0, none⟩ rfl p.cells _ (by have := Row.lies_of_block (HB.out.at 3 rfl); simpa using this) Try.underlying23 rfl infoP ?_) | fail)
      refine (HQ.out _).mono ?_
      rintro e vd ⟨rfl, hb⟩
      have HB2 := Lib.hid (HB.out.step hb)
      clear hb kg
      have kg : vd.cell? ⟨g, 0, none⟩ = some (I r) := HB2.out.cell 0 0 rfl rfl
      have fg : vd.frozen? ⟨g, 0, none⟩ = false := HB2.out.frozen 0 0 rfl
      go_upto_region 9 with fail
      have hput := HB2.out.set 0 0 rfl (I q)
      simp only [List.set_cons_succ, List.set_cons_zero, List.setIfInBounds_toArray] at hput
      generalize World.setCell _ _ _ = v2 at hput ⊢
      have HC := Lib.hid hput
      clear hput
      go_wp2_with (first | (refine Row.wpList_load_g 27 _ rfl (by first | rfl | go_simp) ⟨g, 0, none⟩ rfl [I q, I 0, I 0] _ (by have := Row.lies_of_block (HC.out.at 0 rfl); simpa using this) Try.underlying27 rfl infoTn ?_) | (refine wpList_store_row rfl 27 _ _ rfl gz #[I q, I 0, I 0] rfl rfl 27 _ (HC.out.at 1 rfl) infoTn rfl (by simp [Value.oneCell']) ?_))
      have hput := HC.out.put 1 rfl #[I q, I 0, I 0]
      simp only [List.set_cons_succ, List.set_cons_zero] at hput
      generalize World.setRow _ gz _ = v4 at hput ⊢
      have HG := Lib.hid hput
      clear hput
      go_wp2_with fail
      (try simp only [Exit.inBlock, Exit.then])
      refine bodyPost_ret (v := .agg #[I q, I 0, I 0]) ?_ rfl ⟨HV.out, HG.out.bel⟩
      exact results_cell_row rfl _ _ gz 27 _ (0, 0) _ rfl (HG.out.at 1 rfl) Try.underlying27 rfl infoTn
end Gap
namespace Gap
open Go.ChangeShapes Go.WideShapes Go.ChangeAt Go.RowKit
open Tab Flat TabArg
open May (infoP)
theorem rgrow_is {p : Ph} {n u d l' u' d' : Int} {b : Bool} (hs : gr p ⟨n, u, d⟩ b = ⟨l', u', d'⟩) (w : World) : Calls Try.prog 20 #[.agg p.cells.toArray, .agg #[I n, I u, I d], .bool b] w fun e w' => e = .returned (.agg #[I l', I u', I d']) ∧ Below w.heap.size w w' := by
  have h0 := (((Blk.Bks.nil w).alloc p.cells.toArray 23).alloc #[I n, I u, I d] 27).alloc #[I 0, I 0, I 0] 27
  rw [show ((w.alloc (.cells p.cells.toArray 23)).alloc (.cells #[I n, I u, I d] 27)).heap.size = w.heap.size + 1 + 1 by simp, show (w.alloc (.cells p.cells.toArray 23)).heap.size = w.heap.size + 1 by simp] at h0
  have HS := Lib.hid hs
  clear hs
  obtain ⟨r, hr⟩ : ∃ r, lm p n = r := ⟨_, rfl⟩
  have HR := Lib.hid hr
  have LM : Hid (∀ W, Calls Try.prog 21 #[.agg p.cells.toArray, .agg #[I n, I u, I d]] W fun e w' => e = .returned (.int .i64 r) ∧ Below W.heap.size W w') := Lib.hid (fun W => by rw [← hr]; exact rlim_any p n u d W)
  clear hr
  go_enter Try.func20, Try.ntmps20
  go_upto_region 1 with fail
  generalize World.alloc (World.alloc (World.alloc w _) _) _ = v0 at h0 ⊢
  generalize hgz : w.heap.size + 1 + 1 = gz at h0 ⊢
  generalize hgs : w.heap.size + 1 = gs at h0 ⊢
  generalize w.heap.size = gp at h0 ⊢
  clear hgz hgs
  have H0 := Lib.hid h0
  clear h0
  have LP : Hid (∀ W, Below v0.heap.size v0 W → Lies W ⟨gp, 0, none⟩ p.cells) := Lib.hid (fun W hb => by have := Row.lies_of_block ((H0.out.step hb).at 2 rfl); simpa using this)
  have LS : Hid (∀ W, Below v0.heap.size v0 W → Lies W ⟨gs, 0, none⟩ [I n, I u, I d]) := Lib.hid (fun W hb => by have := Row.lies_of_block ((H0.out.step hb).at 1 rfl); simpa using this)
  go_wp2_with (first | (refine Row.wpList_load_g 23 _ rfl (by first | rfl | go_simp) ⟨gp, 0, none⟩ rfl p.cells _ (LP.out _ (Below.refl _ _)) Try.underlying23 rfl infoP ?_) | (refine Row.wpList_load_g 27 _ rfl (by first | rfl | go_simp) ⟨gs, 0, none⟩ rfl [I n, I u, I d] _ (LS.out _ (Below.refl _ _)) Try.underlying27 rfl infoTn ?_))
  refine (LM.out _).mono ?_
  rintro e vc ⟨rfl, hb⟩
  go_upto_region 3 with fail
  have hB := (H0.out.step hb).alloc #[I r, I 0, I 0] 27
  generalize World.alloc vc _ = wx at hB ⊢
  generalize vc.heap.size = g at hB ⊢
  clear hb
  have HB := Lib.hid hB
  clear hB
  cases b
  · by_cases hx : d < 1
    · have hx2 := HS.out
      unfold gr at hx2
      rw [if_neg (by simp), if_pos hx] at hx2
      dsimp only at hx2
      rw [HR.out] at hx2
      injection hx2 with e1 e2 e3
      have HV : Hid (Ending.returned (Value.agg #[I r, I 0, I 1]) = Ending.returned (Value.agg #[I l', I u', I d'])) := Lib.hid (by rw [← e1, ← e2, ← e3])
      clear e1 e2 e3
      have c1 : wx.cell? ⟨gs, 1, none⟩ = some (I u) := HB.out.cell 2 1 rfl rfl
      have c2 : wx.cell? ⟨gs, 2, none⟩ = some (I d) := HB.out.cell 2 2 rfl rfl
      have CC : Hid (∀ W, Calls Try.prog 38 #[.int .i64 d, .int .i64 0, .int .i64 1] W fun e w' => e = .returned (.int .i64 0) ∧ W = w') := Lib.hid (fun W => by have := Cnt.rcut_any d 0 1 W; rwa [show Cnt.ct d 0 1 = 0 by unfold Cnt.ct; split <;> (try split) <;> omega] at this)
      clear hx
      have kg : wx.cell? ⟨g, 2, none⟩ = some (I 0) := HB.out.cell 0 2 rfl rfl
      have fg : wx.frozen? ⟨g, 2, none⟩ = false := HB.out.frozen 0 2 rfl
      go_upto_region 9 with (go_at_call 38; refine (CC.out _).mono ?_; rintro e w' ⟨rfl, rfl⟩)
      have hput := HB.out.set 0 2 rfl (I 1)
      simp only [List.set_cons_succ, List.set_cons_zero, List.setIfInBounds_toArray] at hput
      generalize World.setCell _ _ _ = v2 at hput ⊢
      have HC := Lib.hid hput
      clear hput
      go_wp2_with (first | (refine Row.wpList_load_g 27 _ rfl (by first | rfl | go_simp) ⟨g, 0, none⟩ rfl [I r, I 0, I 1] _ (by have := Row.lies_of_block (HC.out.at 0 rfl); simpa using this) Try.underlying27 rfl infoTn ?_) | (refine wpList_store_row rfl 27 _ _ rfl gz #[I r, I 0, I 1] rfl rfl 27 _ (HC.out.at 1 rfl) infoTn rfl (by simp [Value.oneCell']) ?_))
      have hput := HC.out.put 1 rfl #[I r, I 0, I 1]
      simp only [List.set_cons_succ, List.set_cons_zero] at hput
      generalize World.setRow _ gz _ = v4 at hput ⊢
      have HG := Lib.hid hput
      clear hput
      go_wp2_with fail
      (try simp only [Exit.inBlock, Exit.then])
      refine bodyPost_ret (v := .agg #[I r, I 0, I 1]) ?_ rfl ⟨HV.out, HG.out.bel⟩
      exact results_cell_row rfl _ _ gz 27 _ (0, 0) _ rfl (HG.out.at 1 rfl) Try.underlying27 rfl infoTn
    · have hx2 := HS.out
      unfold gr at hx2
      rw [if_neg (by simp), if_neg hx] at hx2
      dsimp only at hx2
      rw [HR.out] at hx2
      obtain ⟨q, hq⟩ : ∃ q, lm p (wr (r - p.step)) = q := ⟨_, rfl⟩
      rw [hq] at hx2
      have HQ : Hid (∀ W, Calls Try.prog 21 #[.agg p.cells.toArray, .agg #[.int .i64 (wrap64 (r - p.step)), I 0, I 0]] W fun e w' => e = .returned (.int .i64 q) ∧ Below W.heap.size W w') := Lib.hid (fun W => by rw [← hq]; exact rlim_any p _ 0 0 W)
      clear hq
      injection hx2 with e1 e2 e3
      have HV : Hid (Ending.returned (Value.agg #[I q, I 0, I 0]) = Ending.returned (Value.agg #[I l', I u', I d'])) := Lib.hid (by rw [← e1, ← e2, ← e3])
      clear e1 e2 e3
      have c1 : wx.cell? ⟨gs, 1, none⟩ = some (I u) := HB.out.cell 2 1 rfl rfl
      have c2 : wx.cell? ⟨gs, 2, none⟩ = some (I d) := HB.out.cell 2 2 rfl rfl
      have CC : Hid (∀ W, Calls Try.prog 38 #[.int .i64 d, .int .i64 0, .int .i64 1] W fun e w' => e = .returned (.int .i64 1) ∧ W = w') := Lib.hid (fun W => by have := Cnt.rcut_any d 0 1 W; rwa [show Cnt.ct d 0 1 = 1 by unfold Cnt.ct; split <;> (try split) <;> omega] at this)
      clear hx
      have kg : wx.cell? ⟨g, 0, none⟩ = some (I r) := HB.out.cell 0 0 rfl rfl
      have k5 : wx.cell? ⟨gp, 5, none⟩ = some (I p.step) := HB.out.cell 3 5 rfl rfl
      go_wp2_with (first | (refine Row.wpList_load_g 23 _ rfl (by first | rfl | go_simp) ⟨gp, 0, none⟩ rfl p.cells _ (by have := Row.lies_of_block (HB.out.at 3 rfl); simpa using this) Try.underlying23 rfl infoP ?_) | (go_at_call 38; refine (CC.out _).mono ?_; rintro e w' ⟨rfl, rfl⟩))
      refine (HQ.out _).mono ?_
      rintro e vd ⟨rfl, hb⟩
      have HB2 := Lib.hid (HB.out.step hb)
      clear hb kg
      have kg : vd.cell? ⟨g, 0, none⟩ = some (I r) := HB2.out.cell 0 0 rfl rfl
      have fg : vd.frozen? ⟨g, 0, none⟩ = false := HB2.out.frozen 0 0 rfl
      go_upto_region 9 with fail
      have hput := HB2.out.set 0 0 rfl (I q)
      simp only [List.set_cons_succ, List.set_cons_zero, List.setIfInBounds_toArray] at hput
      generalize World.setCell _ _ _ = v2 at hput ⊢
      have HC := Lib.hid hput
      clear hput
      go_wp2_with (first | (refine Row.wpList_load_g 27 _ rfl (by first | rfl | go_simp) ⟨g, 0, none⟩ rfl [I q, I 0, I 0] _ (by have := Row.lies_of_block (HC.out.at 0 rfl); simpa using this) Try.underlying27 rfl infoTn ?_) | (refine wpList_store_row rfl 27 _ _ rfl gz #[I q, I 0, I 0] rfl rfl 27 _ (HC.out.at 1 rfl) infoTn rfl (by simp [Value.oneCell']) ?_))
      have hput := HC.out.put 1 rfl #[I q, I 0, I 0]
      simp only [List.set_cons_succ, List.set_cons_zero] at hput
      generalize World.setRow _ gz _ = v4 at hput ⊢
      have HG := Lib.hid hput
      clear hput
      go_wp2_with fail
      (try simp only [Exit.inBlock, Exit.then])
      refine bodyPost_ret (v := .agg #[I q, I 0, I 0]) ?_ rfl ⟨HV.out, HG.out.bel⟩
      exact results_cell_row rfl _ _ gz 27 _ (0, 0) _ rfl (HG.out.at 1 rfl) Try.underlying27 rfl infoTn
  · by_cases hx : u < 1
    · have hx2 := HS.out
      unfold gr at hx2
      rw [if_pos rfl, if_pos hx] at hx2
      dsimp only at hx2
      rw [HR.out] at hx2
      injection hx2 with e1 e2 e3
      have HV : Hid (Ending.returned (Value.agg #[I r, I 1, I 0]) = Ending.returned (Value.agg #[I l', I u', I d'])) := Lib.hid (by rw [← e1, ← e2, ← e3])
      clear e1 e2 e3
      have c1 : wx.cell? ⟨gs, 1, none⟩ = some (I u) := HB.out.cell 2 1 rfl rfl
      have c2 : wx.cell? ⟨gs, 2, none⟩ = some (I d) := HB.out.cell 2 2 rfl rfl
      have CC : Hid (∀ W, Calls Try.prog 38 #[.int .i64 u, .int .i64 0, .int .i64 1] W fun e w' => e = .returned (.int .i64 0) ∧ W = w') := Lib.hid (fun W => by have := Cnt.rcut_any u 0 1 W; rwa [show Cnt.ct u 0 1 = 0 by unfold Cnt.ct; split <;> (try split) <;> omega] at this)
      clear hx
      have kg : wx.cell? ⟨g, 1, none⟩ = some (I 0) := HB.out.cell 0 1 rfl rfl
      have fg : wx.frozen? ⟨g, 1, none⟩ = false := HB.out.frozen 0 1 rfl
      go_upto_region 9 with (go_at_call 38; refine (CC.out _).mono ?_; rintro e w' ⟨rfl, rfl⟩)
      have hput := HB.out.set 0 1 rfl (I 1)
      simp only [List.set_cons_succ, List.set_cons_zero, List.setIfInBounds_toArray] at hput
      generalize World.setCell _ _ _ = v2 at hput ⊢
      have HC := Lib.hid hput
      clear hput
      go_wp2_with (first | (refine Row.wpList_load_g 27 _ rfl (by first | rfl | go_simp) ⟨g, 0, none⟩ rfl [I r, I 1, I 0] _ (by have := Row.lies_of_block (HC.out.at 0 rfl); simpa using this) Try.underlying27 rfl infoTn ?_) | (refine wpList_store_row rfl 27 _ _ rfl gz #[I r, I 1, I 0] rfl rfl 27 _ (HC.out.at 1 rfl) infoTn rfl (by simp [Value.oneCell']) ?_))
      have hput := HC.out.put 1 rfl #[I r, I 1, I 0]
      simp only [List.set_cons_succ, List.set_cons_zero] at hput
      generalize World.setRow _ gz _ = v4 at hput ⊢
      have HG := Lib.hid hput
      clear hput
      go_wp2_with fail
      (try simp only [Exit.inBlock, Exit.then])
      refine bodyPost_ret (v := .agg #[I r, I 1, I 0]) ?_ rfl ⟨HV.out, HG.out.bel⟩
      exact results_cell_row rfl _ _ gz 27 _ (0, 0) _ rfl (HG.out.at 1 rfl) Try.underlying27 rfl infoTn
    · have hx2 := HS.out
      unfold gr at hx2
      rw [if_pos rfl, if_neg hx] at hx2
      dsimp only at hx2
      rw [HR.out] at hx2
      obtain ⟨q, hq⟩ : ∃ q, lm p (wr (r + p.step)) = q := ⟨_, rfl⟩
      rw [hq] at hx2
      have HQ : Hid (∀ W, Calls Try.prog 21 #[.agg p.cells.toArray, .agg #[.int .i64 (wrap64 (r + p.step)), I 0, I 0]] W fun e w' => e = .returned (.int .i64 q) ∧ Below W.heap.size W w') := Lib.hid (fun W => by rw [← hq]; exact rlim_any p _ 0 0 W)
      clear hq
      injection hx2 with e1 e2 e3
      have HV : Hid (Ending.returned (Value.agg #[I q, I 0, I 0]) = Ending.returned (Value.agg #[I l', I u', I d'])) := Lib.hid (by rw [← e1, ← e2, ← e3])
      clear e1 e2 e3
      have c1 : wx.cell? ⟨gs, 1, none⟩ = some (I u) := HB.out.cell 2 1 rfl rfl
      have c2 : wx.cell? ⟨gs, 2, none⟩ = some (I d) := HB.out.cell 2 2 rfl rfl
      have CC : Hid (∀ W, Calls Try.prog 38 #[.int .i64 u, .int .i64 0, .int .i64 1] W fun e w' => e = .returned (.int .i64 1) ∧ W = w') := Lib.hid (fun W => by have := Cnt.rcut_any u 0 1 W; rwa [show Cnt.ct u 0 1 = 1 by unfold Cnt.ct; split <;> (try split) <;> omega] at this)
      clear hx
      have kg : wx.cell? ⟨g, 0, none⟩ = some (I r) := HB.out.cell 0 0 rfl rfl
      have k5 : wx.cell? ⟨gp, 5, none⟩ = some (I p.step) := HB.out.cell 3 5 rfl rfl
      go_wp2_with (first | (refine Row.wpList_load_g 23 _ rfl (by first | rfl | go_simp) ⟨gp, 0, none⟩ rfl p.cells _ (by have := Row.lies_of_block (HB.out.at 3 rfl); simpa using this) Try.underlying23 rfl infoP ?_) | (go_at_call 38; refine (CC.out _).mono ?_; rintro e w' ⟨rfl, rfl⟩))
      refine (HQ.out _).mono ?_
      rintro e vd ⟨rfl, hb⟩
      have HB2 := Lib.hid (HB.out.step hb)
      clear hb kg
      have kg : vd.cell? ⟨g, 0, none⟩ = some (I r) := HB2.out.cell 0 0 rfl rfl
      have fg : vd.frozen? ⟨g, 0, none⟩ = false := HB2.out.frozen 0 0 rfl
      go_upto_region 9 with fail
      have hput := HB2.out.set 0 0 rfl (I q)
      simp only [List.set_cons_succ, List.set_cons_zero, List.setIfInBounds_toArray] at hput
      generalize World.setCell _ _ _ = v2 at hput ⊢
      have HC := Lib.hid hput
      clear hput
      go_wp2_with (first | (refine Row.wpList_load_g 27 _ rfl (by first | rfl | go_simp) ⟨g, 0, none⟩ rfl [I q, I 0, I 0] _ (by have := Row.lies_of_block (HC.out.at 0 rfl); simpa using this) Try.underlying27 rfl infoTn ?_) | (refine wpList_store_row rfl 27 _ _ rfl gz #[I q, I 0, I 0] rfl rfl 27 _ (HC.out.at 1 rfl) infoTn rfl (by simp [Value.oneCell']) ?_))
      have hput := HC.out.put 1 rfl #[I q, I 0, I 0]
      simp only [List.set_cons_succ, List.set_cons_zero] at hput
      generalize World.setRow _ gz _ = v4 at hput ⊢
      have HG := Lib.hid hput
      clear hput
      go_wp2_with fail
      (try simp only [Exit.inBlock, Exit.then])
      refine bodyPost_ret (v := .agg #[I q, I 0, I 0]) ?_ rfl ⟨HV.out, HG.out.bel⟩
      exact results_cell_row rfl _ _ gz 27 _ (0, 0) _ rfl (HG.out.at 1 rfl) Try.underlying27 rfl infoTn
end Gap
namespace Ped
open Go.ChangeShapes Go.WideShapes Go.ChangeAt Go.RowKit
open Tab Flat TabArg QL
open May (infoP)
structure Ft where
  st : Int
  tm : Int
deriving DecidableEq
def Ft.cells (s : Ft) : List Value := [I s.st, I s.tm]
theorem flFt5 : flat Try.prog 5 25 = some [3, 3] := by kernel_rfl
section
variable {H : Type} {enc : TypeId × Value → H} {P : Program} {w : World} {base : Nat} {spare : Nat → Bool} {held : Bool}
end
theorem ft_eqs (a b c d : Int) : Same.Eqs 25 [I a, I b] [I c, I d] (decide (a = c ∧ b = d)) := by
  have := Same.eqs_of (p := a = c ∧ b = d) flFt5 (by decide) (by kernel_rfl) [(I a, I c), (I b, I d)] ⟨Same.lint _ _, Same.lint _ _, trivial⟩ rfl rfl (by simp)
  simpa using this
theorem guardFt : Try.prog.eqGuardType Try.prog.depth 25 = false := by kernel_rfl
theorem infoFt : (Try.prog.info? 25).map (·.size) = some 2 := by kernel_rfl
theorem ret_bool {a b : Bool} (h : a = b) : Ending.returned (.bool a) = .returned (.bool b) := by rw [h]
/-- One tick of a signal: k ticks of walk, l of blinks. -/
def ft (k l s t : Int) (b : Bool) : Ft :=
  if s = 1 then (if k ≤ t then ⟨2, 1⟩ else ⟨1, Cnt.more t⟩)
  else if s = 2 then (if l ≤ t then ⟨0, 0⟩ else ⟨2, Cnt.more t⟩)
  else if b = true ∧ 0 < k then ⟨1, 1⟩ else ⟨0, 0⟩
def cu (s t : Int) : Ft := if s = 1 then ⟨2, 1⟩ else ⟨s, t⟩
theorem oneMore_any (n : Int) (w : World) : Calls Try.prog 92 #[.int .i64 n] w fun e w' => e = .returned (.int .i64 (Cnt.more n)) ∧ w = w' := by
  by_cases h1 : n < 0
  · have HE : Hid (Cnt.more n = 1) := Lib.hid (by unfold Cnt.more Cnt.ct; rw [if_pos h1]; rfl)
    have em : max n 0 = 0 := by omega
    go_enter Try.func92, Try.ntmps92
    go_wp2
    go_ret
    exact ⟨Cnt.ret_int HE.out.symm, rfl⟩
  by_cases h2 : 9999 < n
  · have HE : Hid (Cnt.more n = 10000) := Lib.hid (by unfold Cnt.more Cnt.ct; rw [if_neg h1, if_pos h2]; rfl)
    go_enter Try.func92, Try.ntmps92
    go_wp2
    go_ret
    exact ⟨Cnt.ret_int HE.out.symm, rfl⟩
  · have HE : Hid (Cnt.more n = n + 1) := Lib.hid (by unfold Cnt.more Cnt.ct; rw [if_neg h1, if_neg h2])
    have e1 : IntKind.i64.wrap (n + 1) = n + 1 := by rw [IntKind.wrap_i64]; omega
    go_enter Try.func92, Try.ntmps92
    go_wp2
    go_ret
    exact ⟨Cnt.ret_int HE.out.symm, rfl⟩
theorem first_any (s : Int) (w : World) : Calls Try.prog 88 #[.int .i64 s] w fun e w' => e = .returned (.agg #[I s, I 1]) ∧ Below w.heap.size w w' := by
  have h0 := (Blk.Bks.nil w).alloc #[I 0, I 0] 25
  go_enter Try.func88, Try.ntmps88
  go_upto_region 1 with fail
  generalize World.alloc w _ = v at h0 ⊢
  generalize w.heap.size = gz at h0 ⊢
  have H0 := Lib.hid h0
  clear h0
  go_wp2_with (refine wpList_store_row rfl 25 _ _ rfl gz #[I s, I 1] rfl rfl 25 _ (H0.out.at 0 rfl) infoFt rfl (by simp [Value.oneCell']) ?_)
  have hput := H0.out.put 0 rfl #[I s, I 1]
  simp only [List.set_cons_succ, List.set_cons_zero] at hput
  generalize World.setRow v gz _ = v2 at hput ⊢
  have HG := Lib.hid hput
  clear hput
  go_wp2_with fail
  (try simp only [Exit.inBlock, Exit.then])
  refine bodyPost_ret (v := .agg #[I s, I 1]) ?_ rfl ⟨rfl, HG.out.bel⟩
  exact results_cell_row rfl _ _ gz 25 _ (0, 0) _ rfl (HG.out.at 0 rfl) Try.underlying25 rfl infoFt
theorem last_is {s t n a b c d : Int} (hs : (if n ≤ t then (⟨a, b⟩ : Ft) else ⟨s, Cnt.more t⟩) = ⟨c, d⟩) (w : World) : Calls Try.prog 87 #[.agg #[I s, I t], .int .i64 n, .agg #[I a, I b]] w fun e w' => e = .returned (.agg #[I c, I d]) ∧ Below w.heap.size w w' := by
  have h0 := (((Blk.Bks.nil w).alloc #[I s, I t] 25).alloc #[I a, I b] 25).alloc #[I 0, I 0] 25
  rw [show ((w.alloc (.cells #[I s, I t] 25)).alloc (.cells #[I a, I b] 25)).heap.size = w.heap.size + 1 + 1 by simp, show (w.alloc (.cells #[I s, I t] 25)).heap.size = w.heap.size + 1 by simp] at h0
  by_cases h1 : n ≤ t
  · rw [if_pos h1] at hs
    injection hs with e1 e2
    subst e1 e2
    go_enter Try.func87, Try.ntmps87
    go_upto_region 1 with fail
    generalize World.alloc (World.alloc (World.alloc w _) _) _ = v at h0 ⊢
    generalize hgz : w.heap.size + 1 + 1 = gz at h0 ⊢
    generalize hgs : w.heap.size + 1 = gs at h0 ⊢
    generalize w.heap.size = gp at h0 ⊢
    clear hgz hgs
    have H0 := Lib.hid h0
    clear h0
    have c1 : v.cell? ⟨gp, 1, none⟩ = some (I t) := H0.out.cell 2 1 rfl rfl
    go_wp2_with (first | (refine Row.wpList_load_g 25 _ rfl (by first | rfl | (go_simp; done) | fail) ⟨gs, 0, none⟩ rfl [I a, I b] _ (by have := Row.lies_of_block (H0.out.at 1 rfl); simpa using this) Try.underlying25 rfl infoFt ?_) | (refine wpList_store_row rfl 25 _ _ rfl gz #[I a, I b] rfl rfl 25 _ (H0.out.at 0 rfl) infoFt rfl (by simp [Value.oneCell']) ?_))
    have hput := H0.out.put 0 rfl #[I a, I b]
    simp only [List.set_cons_succ, List.set_cons_zero] at hput
    generalize World.setRow v gz _ = v2 at hput ⊢
    have HG := Lib.hid hput
    clear hput
    go_wp2_with fail
    (try simp only [Exit.inBlock, Exit.then])
    refine bodyPost_ret (v := .agg #[I a, I b]) ?_ rfl ⟨rfl, HG.out.bel⟩
    exact results_cell_row rfl _ _ gz 25 _ (0, 0) _ rfl (HG.out.at 0 rfl) Try.underlying25 rfl infoFt
  · rw [if_neg h1] at hs
    injection hs with e1 e2
    subst e1
    have OM : Hid (∀ W, Calls Try.prog 92 #[.int .i64 t] W fun e w' => e = .returned (.int .i64 d) ∧ W = w') := Lib.hid (fun W => by rw [← e2]; exact oneMore_any t W)
    clear e2
    go_enter Try.func87, Try.ntmps87
    go_upto_region 1 with fail
    generalize World.alloc (World.alloc (World.alloc w _) _) _ = v at h0 ⊢
    generalize hgz : w.heap.size + 1 + 1 = gz at h0 ⊢
    generalize hgs : w.heap.size + 1 = gs at h0 ⊢
    generalize w.heap.size = gp at h0 ⊢
    clear hgz hgs
    have H0 := Lib.hid h0
    clear h0
    have c1 : v.cell? ⟨gp, 1, none⟩ = some (I t) := H0.out.cell 2 1 rfl rfl
    have f1 : v.frozen? ⟨gp, 1, none⟩ = false := H0.out.frozen 2 1 rfl
    go_upto_region 4 with (go_at_call 92; refine (OM.out _).mono ?_; rintro e w' ⟨rfl, rfl⟩)
    have hput := H0.out.set 2 1 rfl (I d)
    simp only [List.set_cons_succ, List.set_cons_zero, List.setIfInBounds_toArray] at hput
    generalize World.setCell _ _ _ = v2 at hput ⊢
    have HC := Lib.hid hput
    clear hput c1 f1
    go_wp2_with (first | (refine Row.wpList_load_g 25 _ rfl (by first | rfl | (go_simp; done) | fail) ⟨gp, 0, none⟩ rfl [I s, I d] _ (by have := Row.lies_of_block (HC.out.at 2 rfl); simpa using this) Try.underlying25 rfl infoFt ?_) | (refine wpList_store_row rfl 25 _ _ rfl gz #[I s, I d] rfl rfl 25 _ (HC.out.at 0 rfl) infoFt rfl (by simp [Value.oneCell']) ?_))
    have hput := HC.out.put 0 rfl #[I s, I d]
    simp only [List.set_cons_succ, List.set_cons_zero] at hput
    generalize World.setRow v2 gz _ = v3 at hput ⊢
    have HG := Lib.hid hput
    clear hput
    go_wp2_with fail
    (try simp only [Exit.inBlock, Exit.then])
    refine bodyPost_ret (v := .agg #[I s, I d]) ?_ rfl ⟨rfl, HG.out.bel⟩
    exact results_cell_row rfl _ _ gz 25 _ (0, 0) _ rfl (HG.out.at 0 rfl) Try.underlying25 rfl infoFt
theorem foot_is {p : Ph} {s t a b : Int} {g : Bool} (hs : ft p.walk p.blinks s t g = ⟨a, b⟩) (w : World) : Calls Try.prog 26 #[.agg p.cells.toArray, .agg #[I s, I t], .bool g] w fun e w' => e = .returned (.agg #[I a, I b]) ∧ Below w.heap.size w w' := by
  have h0 := (((Blk.Bks.nil w).alloc p.cells.toArray 23).alloc #[I s, I t] 25).alloc #[I 0, I 0] 25
  rw [show ((w.alloc (.cells p.cells.toArray 23)).alloc (.cells #[I s, I t] 25)).heap.size = w.heap.size + 1 + 1 by simp, show (w.alloc (.cells p.cells.toArray 23)).heap.size = w.heap.size + 1 by simp] at h0
  obtain ⟨k, hk⟩ : ∃ k, p.walk = k := ⟨_, rfl⟩
  obtain ⟨l, hl⟩ : ∃ l, p.blinks = l := ⟨_, rfl⟩
  rw [hk, hl] at hs
  by_cases h1 : s = 1
  · subst h1
    by_cases h2 : k ≤ t
    · unfold ft at hs
      rw [if_pos rfl, if_pos h2] at hs
      injection hs with e1 e2
      subst e1
      subst e2
      go_enter Try.func26, Try.ntmps26
      go_upto_region 1 with fail
      generalize World.alloc (World.alloc (World.alloc w _) _) _ = v at h0 ⊢
      generalize hgz : w.heap.size + 1 + 1 = gz at h0 ⊢
      generalize hgs : w.heap.size + 1 = gs at h0 ⊢
      generalize w.heap.size = gp at h0 ⊢
      clear hgz hgs
      have H0 := Lib.hid h0
      clear h0
      have k8 : v.cell? ⟨gp, 8, none⟩ = some (I p.walk) := H0.out.cell 2 8 rfl rfl
      have k9 : v.cell? ⟨gp, 9, none⟩ = some (I p.blinks) := H0.out.cell 2 9 rfl rfl
      rw [hk] at k8
      rw [hl] at k9
      have c0 : v.cell? ⟨gs, 0, none⟩ = some (I 1) := H0.out.cell 1 0 rfl rfl
      have c1 : v.cell? ⟨gs, 1, none⟩ = some (I t) := H0.out.cell 1 1 rfl rfl
      go_wp2_with (first | (refine wpList_store_row rfl 25 _ _ rfl gz #[I 2, I 1] rfl rfl 25 _ (H0.out.at 0 rfl) infoFt rfl (by simp [Value.oneCell']) ?_))
      have hput := H0.out.put 0 rfl #[I 2, I 1]
      simp only [List.set_cons_succ, List.set_cons_zero] at hput
      generalize World.setRow v gz _ = vz at hput ⊢
      have HG := Lib.hid hput
      clear hput
      go_wp2_with fail
      (try simp only [Exit.inBlock, Exit.then])
      refine bodyPost_ret (v := .agg #[I 2, I 1]) ?_ rfl ⟨rfl, HG.out.bel⟩
      exact results_cell_row rfl _ _ gz 25 _ (0, 0) _ rfl (HG.out.at 0 rfl) Try.underlying25 rfl infoFt
    · unfold ft at hs
      rw [if_pos rfl, if_neg h2] at hs
      injection hs with e1 e2
      subst e1
      have OM : Hid (∀ W, Calls Try.prog 25 #[.int .i64 t] W fun e w' => e = .returned (.int .i64 b) ∧ W = w') := Lib.hid (fun W => by rw [← e2]; exact Cnt.rmore_any t W)
      clear e2
      go_enter Try.func26, Try.ntmps26
      go_upto_region 1 with fail
      generalize World.alloc (World.alloc (World.alloc w _) _) _ = v at h0 ⊢
      generalize hgz : w.heap.size + 1 + 1 = gz at h0 ⊢
      generalize hgs : w.heap.size + 1 = gs at h0 ⊢
      generalize w.heap.size = gp at h0 ⊢
      clear hgz hgs
      have H0 := Lib.hid h0
      clear h0
      have k8 : v.cell? ⟨gp, 8, none⟩ = some (I p.walk) := H0.out.cell 2 8 rfl rfl
      have k9 : v.cell? ⟨gp, 9, none⟩ = some (I p.blinks) := H0.out.cell 2 9 rfl rfl
      rw [hk] at k8
      rw [hl] at k9
      have c0 : v.cell? ⟨gs, 0, none⟩ = some (I 1) := H0.out.cell 1 0 rfl rfl
      have c1 : v.cell? ⟨gs, 1, none⟩ = some (I t) := H0.out.cell 1 1 rfl rfl
      go_wp2_with (first | (go_at_call 25; refine (OM.out _).mono ?_; rintro e w' ⟨rfl, rfl⟩) | (refine wpList_store_row rfl 25 _ _ rfl gz #[I 1, I b] rfl rfl 25 _ (H0.out.at 0 rfl) infoFt rfl (by simp [Value.oneCell']) ?_))
      have hput := H0.out.put 0 rfl #[I 1, I b]
      simp only [List.set_cons_succ, List.set_cons_zero] at hput
      generalize World.setRow v gz _ = vz at hput ⊢
      have HG := Lib.hid hput
      clear hput
      go_wp2_with fail
      (try simp only [Exit.inBlock, Exit.then])
      refine bodyPost_ret (v := .agg #[I 1, I b]) ?_ rfl ⟨rfl, HG.out.bel⟩
      exact results_cell_row rfl _ _ gz 25 _ (0, 0) _ rfl (HG.out.at 0 rfl) Try.underlying25 rfl infoFt
  · by_cases h3 : s = 2
    · subst h3
      by_cases h2 : l ≤ t
      · unfold ft at hs
        rw [if_neg h1, if_pos rfl, if_pos h2] at hs
        injection hs with e1 e2
        subst e1
        subst e2
        go_enter Try.func26, Try.ntmps26
        go_upto_region 1 with fail
        generalize World.alloc (World.alloc (World.alloc w _) _) _ = v at h0 ⊢
        generalize hgz : w.heap.size + 1 + 1 = gz at h0 ⊢
        generalize hgs : w.heap.size + 1 = gs at h0 ⊢
        generalize w.heap.size = gp at h0 ⊢
        clear hgz hgs
        have H0 := Lib.hid h0
        clear h0
        have k8 : v.cell? ⟨gp, 8, none⟩ = some (I p.walk) := H0.out.cell 2 8 rfl rfl
        have k9 : v.cell? ⟨gp, 9, none⟩ = some (I p.blinks) := H0.out.cell 2 9 rfl rfl
        rw [hk] at k8
        rw [hl] at k9
        have c0 : v.cell? ⟨gs, 0, none⟩ = some (I 2) := H0.out.cell 1 0 rfl rfl
        have c1 : v.cell? ⟨gs, 1, none⟩ = some (I t) := H0.out.cell 1 1 rfl rfl
        go_wp2_with (first | (refine wpList_store_row rfl 25 _ _ rfl gz #[I 0, I 0] rfl rfl 25 _ (H0.out.at 0 rfl) infoFt rfl (by simp [Value.oneCell']) ?_))
        have hput := H0.out.put 0 rfl #[I 0, I 0]
        simp only [List.set_cons_succ, List.set_cons_zero] at hput
        generalize World.setRow v gz _ = vz at hput ⊢
        have HG := Lib.hid hput
        clear hput
        go_wp2_with fail
        (try simp only [Exit.inBlock, Exit.then])
        refine bodyPost_ret (v := .agg #[I 0, I 0]) ?_ rfl ⟨rfl, HG.out.bel⟩
        exact results_cell_row rfl _ _ gz 25 _ (0, 0) _ rfl (HG.out.at 0 rfl) Try.underlying25 rfl infoFt
      · unfold ft at hs
        rw [if_neg h1, if_pos rfl, if_neg h2] at hs
        injection hs with e1 e2
        subst e1
        have OM : Hid (∀ W, Calls Try.prog 25 #[.int .i64 t] W fun e w' => e = .returned (.int .i64 b) ∧ W = w') := Lib.hid (fun W => by rw [← e2]; exact Cnt.rmore_any t W)
        clear e2
        go_enter Try.func26, Try.ntmps26
        go_upto_region 1 with fail
        generalize World.alloc (World.alloc (World.alloc w _) _) _ = v at h0 ⊢
        generalize hgz : w.heap.size + 1 + 1 = gz at h0 ⊢
        generalize hgs : w.heap.size + 1 = gs at h0 ⊢
        generalize w.heap.size = gp at h0 ⊢
        clear hgz hgs
        have H0 := Lib.hid h0
        clear h0
        have k8 : v.cell? ⟨gp, 8, none⟩ = some (I p.walk) := H0.out.cell 2 8 rfl rfl
        have k9 : v.cell? ⟨gp, 9, none⟩ = some (I p.blinks) := H0.out.cell 2 9 rfl rfl
        rw [hk] at k8
        rw [hl] at k9
        have c0 : v.cell? ⟨gs, 0, none⟩ = some (I 2) := H0.out.cell 1 0 rfl rfl
        have c1 : v.cell? ⟨gs, 1, none⟩ = some (I t) := H0.out.cell 1 1 rfl rfl
        go_wp2_with (first | (go_at_call 25; refine (OM.out _).mono ?_; rintro e w' ⟨rfl, rfl⟩) | (refine wpList_store_row rfl 25 _ _ rfl gz #[I 2, I b] rfl rfl 25 _ (H0.out.at 0 rfl) infoFt rfl (by simp [Value.oneCell']) ?_))
        have hput := H0.out.put 0 rfl #[I 2, I b]
        simp only [List.set_cons_succ, List.set_cons_zero] at hput
        generalize World.setRow v gz _ = vz at hput ⊢
        have HG := Lib.hid hput
        clear hput
        go_wp2_with fail
        (try simp only [Exit.inBlock, Exit.then])
        refine bodyPost_ret (v := .agg #[I 2, I b]) ?_ rfl ⟨rfl, HG.out.bel⟩
        exact results_cell_row rfl _ _ gz 25 _ (0, 0) _ rfl (HG.out.at 0 rfl) Try.underlying25 rfl infoFt
    · cases g
      · unfold ft at hs
        rw [if_neg h1, if_neg h3, if_neg (by simp)] at hs
        injection hs with e1 e2
        subst e1
        subst e2
        go_enter Try.func26, Try.ntmps26
        go_upto_region 1 with fail
        generalize World.alloc (World.alloc (World.alloc w _) _) _ = v at h0 ⊢
        generalize hgz : w.heap.size + 1 + 1 = gz at h0 ⊢
        generalize hgs : w.heap.size + 1 = gs at h0 ⊢
        generalize w.heap.size = gp at h0 ⊢
        clear hgz hgs
        have H0 := Lib.hid h0
        clear h0
        have k8 : v.cell? ⟨gp, 8, none⟩ = some (I p.walk) := H0.out.cell 2 8 rfl rfl
        have k9 : v.cell? ⟨gp, 9, none⟩ = some (I p.blinks) := H0.out.cell 2 9 rfl rfl
        rw [hk] at k8
        rw [hl] at k9
        have c0 : v.cell? ⟨gs, 0, none⟩ = some (I s) := H0.out.cell 1 0 rfl rfl
        have c1 : v.cell? ⟨gs, 1, none⟩ = some (I t) := H0.out.cell 1 1 rfl rfl
        go_wp2_with (first | (refine wpList_store_row rfl 25 _ _ rfl gz #[I 0, I 0] rfl rfl 25 _ (H0.out.at 0 rfl) infoFt rfl (by simp [Value.oneCell']) ?_))
        have hput := H0.out.put 0 rfl #[I 0, I 0]
        simp only [List.set_cons_succ, List.set_cons_zero] at hput
        generalize World.setRow v gz _ = vz at hput ⊢
        have HG := Lib.hid hput
        clear hput
        go_wp2_with fail
        (try simp only [Exit.inBlock, Exit.then])
        refine bodyPost_ret (v := .agg #[I 0, I 0]) ?_ rfl ⟨rfl, HG.out.bel⟩
        exact results_cell_row rfl _ _ gz 25 _ (0, 0) _ rfl (HG.out.at 0 rfl) Try.underlying25 rfl infoFt
      · by_cases h2 : 0 < k
        · unfold ft at hs
          rw [if_neg h1, if_neg h3, if_pos ⟨rfl, h2⟩] at hs
          injection hs with e1 e2
          subst e1
          subst e2
          go_enter Try.func26, Try.ntmps26
          go_upto_region 1 with fail
          generalize World.alloc (World.alloc (World.alloc w _) _) _ = v at h0 ⊢
          generalize hgz : w.heap.size + 1 + 1 = gz at h0 ⊢
          generalize hgs : w.heap.size + 1 = gs at h0 ⊢
          generalize w.heap.size = gp at h0 ⊢
          clear hgz hgs
          have H0 := Lib.hid h0
          clear h0
          have k8 : v.cell? ⟨gp, 8, none⟩ = some (I p.walk) := H0.out.cell 2 8 rfl rfl
          have k9 : v.cell? ⟨gp, 9, none⟩ = some (I p.blinks) := H0.out.cell 2 9 rfl rfl
          rw [hk] at k8
          rw [hl] at k9
          have c0 : v.cell? ⟨gs, 0, none⟩ = some (I s) := H0.out.cell 1 0 rfl rfl
          have c1 : v.cell? ⟨gs, 1, none⟩ = some (I t) := H0.out.cell 1 1 rfl rfl
          go_wp2_with (first | (refine wpList_store_row rfl 25 _ _ rfl gz #[I 1, I 1] rfl rfl 25 _ (H0.out.at 0 rfl) infoFt rfl (by simp [Value.oneCell']) ?_))
          have hput := H0.out.put 0 rfl #[I 1, I 1]
          simp only [List.set_cons_succ, List.set_cons_zero] at hput
          generalize World.setRow v gz _ = vz at hput ⊢
          have HG := Lib.hid hput
          clear hput
          go_wp2_with fail
          (try simp only [Exit.inBlock, Exit.then])
          refine bodyPost_ret (v := .agg #[I 1, I 1]) ?_ rfl ⟨rfl, HG.out.bel⟩
          exact results_cell_row rfl _ _ gz 25 _ (0, 0) _ rfl (HG.out.at 0 rfl) Try.underlying25 rfl infoFt
        · unfold ft at hs
          rw [if_neg h1, if_neg h3, if_neg (by simp [h2])] at hs
          injection hs with e1 e2
          subst e1
          subst e2
          go_enter Try.func26, Try.ntmps26
          go_upto_region 1 with fail
          generalize World.alloc (World.alloc (World.alloc w _) _) _ = v at h0 ⊢
          generalize hgz : w.heap.size + 1 + 1 = gz at h0 ⊢
          generalize hgs : w.heap.size + 1 = gs at h0 ⊢
          generalize w.heap.size = gp at h0 ⊢
          clear hgz hgs
          have H0 := Lib.hid h0
          clear h0
          have k8 : v.cell? ⟨gp, 8, none⟩ = some (I p.walk) := H0.out.cell 2 8 rfl rfl
          have k9 : v.cell? ⟨gp, 9, none⟩ = some (I p.blinks) := H0.out.cell 2 9 rfl rfl
          rw [hk] at k8
          rw [hl] at k9
          have c0 : v.cell? ⟨gs, 0, none⟩ = some (I s) := H0.out.cell 1 0 rfl rfl
          have c1 : v.cell? ⟨gs, 1, none⟩ = some (I t) := H0.out.cell 1 1 rfl rfl
          go_wp2_with (first | (refine wpList_store_row rfl 25 _ _ rfl gz #[I 0, I 0] rfl rfl 25 _ (H0.out.at 0 rfl) infoFt rfl (by simp [Value.oneCell']) ?_))
          have hput := H0.out.put 0 rfl #[I 0, I 0]
          simp only [List.set_cons_succ, List.set_cons_zero] at hput
          generalize World.setRow v gz _ = vz at hput ⊢
          have HG := Lib.hid hput
          clear hput
          go_wp2_with fail
          (try simp only [Exit.inBlock, Exit.then])
          refine bodyPost_ret (v := .agg #[I 0, I 0]) ?_ rfl ⟨rfl, HG.out.bel⟩
          exact results_cell_row rfl _ _ gz 25 _ (0, 0) _ rfl (HG.out.at 0 rfl) Try.underlying25 rfl infoFt
theorem step_is {p : Ph} {s t a b : Int} {g : Bool} (hs : ft p.walk p.blinks s t g = ⟨a, b⟩) (w : World) : Calls Try.prog 72 #[.agg p.cells.toArray, .agg #[I s, I t], .bool g] w fun e w' => e = .returned (.agg #[I a, I b]) ∧ Below w.heap.size w w' := by
  have h0 := (((Blk.Bks.nil w).alloc p.cells.toArray 23).alloc #[I s, I t] 25).alloc #[I 0, I 0] 25
  rw [show ((w.alloc (.cells p.cells.toArray 23)).alloc (.cells #[I s, I t] 25)).heap.size = w.heap.size + 1 + 1 by simp, show (w.alloc (.cells p.cells.toArray 23)).heap.size = w.heap.size + 1 by simp] at h0
  obtain ⟨k, hk⟩ : ∃ k, p.walk = k := ⟨_, rfl⟩
  obtain ⟨l, hl⟩ : ∃ l, p.blinks = l := ⟨_, rfl⟩
  rw [hk, hl] at hs
  by_cases h1 : s = 1
  · subst h1
    by_cases h2 : k ≤ t
    · unfold ft at hs
      rw [if_pos rfl, if_pos h2] at hs
      injection hs with e1 e2
      subst e1
      have LA : Hid (∀ W, Calls Try.prog 87 #[.agg #[I 1, I t], .int .i64 k, .agg #[I 2, I 1]] W fun e w' => e = .returned (.agg #[I 2, I 1]) ∧ Below W.heap.size W w') := Lib.hid (fun W => last_is (by rw [if_pos h2] ) W)
      subst e2
      go_enter Try.func72, Try.ntmps72
      go_upto_region 1 with fail
      generalize World.alloc (World.alloc (World.alloc w _) _) _ = v at h0 ⊢
      generalize hgz : w.heap.size + 1 + 1 = gz at h0 ⊢
      generalize hgs : w.heap.size + 1 = gs at h0 ⊢
      generalize w.heap.size = gp at h0 ⊢
      clear hgz hgs
      have H0 := Lib.hid h0
      clear h0
      have k8 : v.cell? ⟨gp, 8, none⟩ = some (I p.walk) := H0.out.cell 2 8 rfl rfl
      have k9 : v.cell? ⟨gp, 9, none⟩ = some (I p.blinks) := H0.out.cell 2 9 rfl rfl
      rw [hk] at k8
      rw [hl] at k9
      have c0 : v.cell? ⟨gs, 0, none⟩ = some (I 1) := H0.out.cell 1 0 rfl rfl
      have c1 : v.cell? ⟨gs, 1, none⟩ = some (I t) := H0.out.cell 1 1 rfl rfl
      have q8 : ∀ q : QB.By v.heap.size v, q.world.cell? ⟨gp, 8, none⟩ = some (I k) := fun q => by have := (H0.out.by q).cell 2 8 rfl rfl; rw [← hk]; exact this
      go_upto_region 2 with fail
      refine QT.region v.heap.size 4 (by kernel_rfl) (by kernel_rfl) ?_
      simp only [List.take_succ_cons, List.take_zero]
      repeat first
        | (refine wpQuiet_load rfl 25 _ rfl ⟨gs, 0, none⟩ rfl [I 1, I t] _ (fun w' ⟨p, e⟩ => by rw [e]; have := Row.lies_of_block ((H0.out.by p).at 1 rfl); simpa using this) Try.underlying25 rfl infoFt ?_
           dsimp only [Act.put]
           simp only [List.setIfInBounds_toArray, List.set_cons_zero, List.set_cons_succ])
        | (quiet_step (first
            | (go_at_call 88; with_reducible exact QB.call_of (Nat.le_refl _) (fun b => first_any 2 _))))
      refine wpQuiet_nil ?_
      intro _ hw'
      obtain ⟨pq, rfl⟩ := hw'
      have HP := Lib.hid (H0.out.by pq)
      clear q8
      generalize pq.world = vp at HP ⊢
      simp only [List.drop_succ_cons, List.drop_zero]
      go_wp2_with fail
      refine (LA.out _).mono ?_
      rintro e vc ⟨rfl, bc⟩
      have HD := Lib.hid (HP.out.step bc)
      clear bc HP
      go_wp2_with (first | (refine wpList_store_row rfl 25 _ _ rfl gz #[I 2, I 1] rfl rfl 25 _ (HD.out.at 0 rfl) infoFt rfl (by simp [Value.oneCell']) ?_))
      have hput := HD.out.put 0 rfl #[I 2, I 1]
      simp only [List.set_cons_succ, List.set_cons_zero] at hput
      generalize World.setRow vc gz _ = vz at hput ⊢
      have HG := Lib.hid hput
      clear hput
      go_wp2_with fail
      (try simp only [Exit.inBlock, Exit.then])
      refine bodyPost_ret (v := .agg #[I 2, I 1]) ?_ rfl ⟨rfl, HG.out.bel⟩
      exact results_cell_row rfl _ _ gz 25 _ (0, 0) _ rfl (HG.out.at 0 rfl) Try.underlying25 rfl infoFt
    · unfold ft at hs
      rw [if_pos rfl, if_neg h2] at hs
      injection hs with e1 e2
      subst e1
      have LA : Hid (∀ W, Calls Try.prog 87 #[.agg #[I 1, I t], .int .i64 k, .agg #[I 2, I 1]] W fun e w' => e = .returned (.agg #[I 1, I b]) ∧ Below W.heap.size W w') := Lib.hid (fun W => last_is (by rw [if_neg h2]; rw [e2]) W)
      clear e2
      go_enter Try.func72, Try.ntmps72
      go_upto_region 1 with fail
      generalize World.alloc (World.alloc (World.alloc w _) _) _ = v at h0 ⊢
      generalize hgz : w.heap.size + 1 + 1 = gz at h0 ⊢
      generalize hgs : w.heap.size + 1 = gs at h0 ⊢
      generalize w.heap.size = gp at h0 ⊢
      clear hgz hgs
      have H0 := Lib.hid h0
      clear h0
      have k8 : v.cell? ⟨gp, 8, none⟩ = some (I p.walk) := H0.out.cell 2 8 rfl rfl
      have k9 : v.cell? ⟨gp, 9, none⟩ = some (I p.blinks) := H0.out.cell 2 9 rfl rfl
      rw [hk] at k8
      rw [hl] at k9
      have c0 : v.cell? ⟨gs, 0, none⟩ = some (I 1) := H0.out.cell 1 0 rfl rfl
      have c1 : v.cell? ⟨gs, 1, none⟩ = some (I t) := H0.out.cell 1 1 rfl rfl
      have q8 : ∀ q : QB.By v.heap.size v, q.world.cell? ⟨gp, 8, none⟩ = some (I k) := fun q => by have := (H0.out.by q).cell 2 8 rfl rfl; rw [← hk]; exact this
      go_upto_region 2 with fail
      refine QT.region v.heap.size 4 (by kernel_rfl) (by kernel_rfl) ?_
      simp only [List.take_succ_cons, List.take_zero]
      repeat first
        | (refine wpQuiet_load rfl 25 _ rfl ⟨gs, 0, none⟩ rfl [I 1, I t] _ (fun w' ⟨p, e⟩ => by rw [e]; have := Row.lies_of_block ((H0.out.by p).at 1 rfl); simpa using this) Try.underlying25 rfl infoFt ?_
           dsimp only [Act.put]
           simp only [List.setIfInBounds_toArray, List.set_cons_zero, List.set_cons_succ])
        | (quiet_step (first
            | (go_at_call 88; with_reducible exact QB.call_of (Nat.le_refl _) (fun b => first_any 2 _))))
      refine wpQuiet_nil ?_
      intro _ hw'
      obtain ⟨pq, rfl⟩ := hw'
      have HP := Lib.hid (H0.out.by pq)
      clear q8
      generalize pq.world = vp at HP ⊢
      simp only [List.drop_succ_cons, List.drop_zero]
      go_wp2_with fail
      refine (LA.out _).mono ?_
      rintro e vc ⟨rfl, bc⟩
      have HD := Lib.hid (HP.out.step bc)
      clear bc HP
      go_wp2_with (first | (refine wpList_store_row rfl 25 _ _ rfl gz #[I 1, I b] rfl rfl 25 _ (HD.out.at 0 rfl) infoFt rfl (by simp [Value.oneCell']) ?_))
      have hput := HD.out.put 0 rfl #[I 1, I b]
      simp only [List.set_cons_succ, List.set_cons_zero] at hput
      generalize World.setRow vc gz _ = vz at hput ⊢
      have HG := Lib.hid hput
      clear hput
      go_wp2_with fail
      (try simp only [Exit.inBlock, Exit.then])
      refine bodyPost_ret (v := .agg #[I 1, I b]) ?_ rfl ⟨rfl, HG.out.bel⟩
      exact results_cell_row rfl _ _ gz 25 _ (0, 0) _ rfl (HG.out.at 0 rfl) Try.underlying25 rfl infoFt
  · by_cases h3 : s = 2
    · subst h3
      by_cases h2 : l ≤ t
      · unfold ft at hs
        rw [if_neg h1, if_pos rfl, if_pos h2] at hs
        injection hs with e1 e2
        subst e1
        have LA : Hid (∀ W, Calls Try.prog 87 #[.agg #[I 2, I t], .int .i64 l, .agg #[I 0, I 0]] W fun e w' => e = .returned (.agg #[I 0, I 0]) ∧ Below W.heap.size W w') := Lib.hid (fun W => last_is (by rw [if_pos h2] ) W)
        subst e2
        go_enter Try.func72, Try.ntmps72
        go_upto_region 1 with fail
        generalize World.alloc (World.alloc (World.alloc w _) _) _ = v at h0 ⊢
        generalize hgz : w.heap.size + 1 + 1 = gz at h0 ⊢
        generalize hgs : w.heap.size + 1 = gs at h0 ⊢
        generalize w.heap.size = gp at h0 ⊢
        clear hgz hgs
        have H0 := Lib.hid h0
        clear h0
        have k8 : v.cell? ⟨gp, 8, none⟩ = some (I p.walk) := H0.out.cell 2 8 rfl rfl
        have k9 : v.cell? ⟨gp, 9, none⟩ = some (I p.blinks) := H0.out.cell 2 9 rfl rfl
        rw [hk] at k8
        rw [hl] at k9
        have c0 : v.cell? ⟨gs, 0, none⟩ = some (I 2) := H0.out.cell 1 0 rfl rfl
        have c1 : v.cell? ⟨gs, 1, none⟩ = some (I t) := H0.out.cell 1 1 rfl rfl
        go_wp2_with (refine Row.wpList_load_g 25 _ rfl (by first | rfl | (go_simp; done) | fail) ⟨gs, 0, none⟩ rfl [I 2, I t] _ (by have := Row.lies_of_block (H0.out.at 1 rfl); simpa using this) Try.underlying25 rfl infoFt ?_)
        refine (LA.out _).mono ?_
        rintro e vc ⟨rfl, bc⟩
        have HD := Lib.hid (H0.out.step bc)
        clear bc
        go_wp2_with (first | (refine wpList_store_row rfl 25 _ _ rfl gz #[I 0, I 0] rfl rfl 25 _ (HD.out.at 0 rfl) infoFt rfl (by simp [Value.oneCell']) ?_))
        have hput := HD.out.put 0 rfl #[I 0, I 0]
        simp only [List.set_cons_succ, List.set_cons_zero] at hput
        generalize World.setRow vc gz _ = vz at hput ⊢
        have HG := Lib.hid hput
        clear hput
        go_wp2_with fail
        (try simp only [Exit.inBlock, Exit.then])
        refine bodyPost_ret (v := .agg #[I 0, I 0]) ?_ rfl ⟨rfl, HG.out.bel⟩
        exact results_cell_row rfl _ _ gz 25 _ (0, 0) _ rfl (HG.out.at 0 rfl) Try.underlying25 rfl infoFt
      · unfold ft at hs
        rw [if_neg h1, if_pos rfl, if_neg h2] at hs
        injection hs with e1 e2
        subst e1
        have LA : Hid (∀ W, Calls Try.prog 87 #[.agg #[I 2, I t], .int .i64 l, .agg #[I 0, I 0]] W fun e w' => e = .returned (.agg #[I 2, I b]) ∧ Below W.heap.size W w') := Lib.hid (fun W => last_is (by rw [if_neg h2]; rw [e2]) W)
        clear e2
        go_enter Try.func72, Try.ntmps72
        go_upto_region 1 with fail
        generalize World.alloc (World.alloc (World.alloc w _) _) _ = v at h0 ⊢
        generalize hgz : w.heap.size + 1 + 1 = gz at h0 ⊢
        generalize hgs : w.heap.size + 1 = gs at h0 ⊢
        generalize w.heap.size = gp at h0 ⊢
        clear hgz hgs
        have H0 := Lib.hid h0
        clear h0
        have k8 : v.cell? ⟨gp, 8, none⟩ = some (I p.walk) := H0.out.cell 2 8 rfl rfl
        have k9 : v.cell? ⟨gp, 9, none⟩ = some (I p.blinks) := H0.out.cell 2 9 rfl rfl
        rw [hk] at k8
        rw [hl] at k9
        have c0 : v.cell? ⟨gs, 0, none⟩ = some (I 2) := H0.out.cell 1 0 rfl rfl
        have c1 : v.cell? ⟨gs, 1, none⟩ = some (I t) := H0.out.cell 1 1 rfl rfl
        go_wp2_with (refine Row.wpList_load_g 25 _ rfl (by first | rfl | (go_simp; done) | fail) ⟨gs, 0, none⟩ rfl [I 2, I t] _ (by have := Row.lies_of_block (H0.out.at 1 rfl); simpa using this) Try.underlying25 rfl infoFt ?_)
        refine (LA.out _).mono ?_
        rintro e vc ⟨rfl, bc⟩
        have HD := Lib.hid (H0.out.step bc)
        clear bc
        go_wp2_with (first | (refine wpList_store_row rfl 25 _ _ rfl gz #[I 2, I b] rfl rfl 25 _ (HD.out.at 0 rfl) infoFt rfl (by simp [Value.oneCell']) ?_))
        have hput := HD.out.put 0 rfl #[I 2, I b]
        simp only [List.set_cons_succ, List.set_cons_zero] at hput
        generalize World.setRow vc gz _ = vz at hput ⊢
        have HG := Lib.hid hput
        clear hput
        go_wp2_with fail
        (try simp only [Exit.inBlock, Exit.then])
        refine bodyPost_ret (v := .agg #[I 2, I b]) ?_ rfl ⟨rfl, HG.out.bel⟩
        exact results_cell_row rfl _ _ gz 25 _ (0, 0) _ rfl (HG.out.at 0 rfl) Try.underlying25 rfl infoFt
    · cases g
      · unfold ft at hs
        rw [if_neg h1, if_neg h3, if_neg (by simp)] at hs
        injection hs with e1 e2
        subst e1
        subst e2
        go_enter Try.func72, Try.ntmps72
        go_upto_region 1 with fail
        generalize World.alloc (World.alloc (World.alloc w _) _) _ = v at h0 ⊢
        generalize hgz : w.heap.size + 1 + 1 = gz at h0 ⊢
        generalize hgs : w.heap.size + 1 = gs at h0 ⊢
        generalize w.heap.size = gp at h0 ⊢
        clear hgz hgs
        have H0 := Lib.hid h0
        clear h0
        have k8 : v.cell? ⟨gp, 8, none⟩ = some (I p.walk) := H0.out.cell 2 8 rfl rfl
        have k9 : v.cell? ⟨gp, 9, none⟩ = some (I p.blinks) := H0.out.cell 2 9 rfl rfl
        rw [hk] at k8
        rw [hl] at k9
        have c0 : v.cell? ⟨gs, 0, none⟩ = some (I s) := H0.out.cell 1 0 rfl rfl
        have c1 : v.cell? ⟨gs, 1, none⟩ = some (I t) := H0.out.cell 1 1 rfl rfl
        go_wp2_with (first | (refine wpList_store_row rfl 25 _ _ rfl gz #[I 0, I 0] rfl rfl 25 _ (H0.out.at 0 rfl) infoFt rfl (by simp [Value.oneCell']) ?_))
        have hput := H0.out.put 0 rfl #[I 0, I 0]
        simp only [List.set_cons_succ, List.set_cons_zero] at hput
        generalize World.setRow v gz _ = vz at hput ⊢
        have HG := Lib.hid hput
        clear hput
        go_wp2_with fail
        (try simp only [Exit.inBlock, Exit.then])
        refine bodyPost_ret (v := .agg #[I 0, I 0]) ?_ rfl ⟨rfl, HG.out.bel⟩
        exact results_cell_row rfl _ _ gz 25 _ (0, 0) _ rfl (HG.out.at 0 rfl) Try.underlying25 rfl infoFt
      · by_cases h2 : 0 < k
        · unfold ft at hs
          rw [if_neg h1, if_neg h3, if_pos ⟨rfl, h2⟩] at hs
          injection hs with e1 e2
          subst e1
          subst e2
          go_enter Try.func72, Try.ntmps72
          go_upto_region 1 with fail
          generalize World.alloc (World.alloc (World.alloc w _) _) _ = v at h0 ⊢
          generalize hgz : w.heap.size + 1 + 1 = gz at h0 ⊢
          generalize hgs : w.heap.size + 1 = gs at h0 ⊢
          generalize w.heap.size = gp at h0 ⊢
          clear hgz hgs
          have H0 := Lib.hid h0
          clear h0
          have k8 : v.cell? ⟨gp, 8, none⟩ = some (I p.walk) := H0.out.cell 2 8 rfl rfl
          have k9 : v.cell? ⟨gp, 9, none⟩ = some (I p.blinks) := H0.out.cell 2 9 rfl rfl
          rw [hk] at k8
          rw [hl] at k9
          have c0 : v.cell? ⟨gs, 0, none⟩ = some (I s) := H0.out.cell 1 0 rfl rfl
          have c1 : v.cell? ⟨gs, 1, none⟩ = some (I t) := H0.out.cell 1 1 rfl rfl
          go_wp2_with fail
          refine (first_any 1 _).mono ?_
          rintro e vc ⟨rfl, bc⟩
          have HD := Lib.hid (H0.out.step bc)
          clear bc
          go_wp2_with (first | (refine wpList_store_row rfl 25 _ _ rfl gz #[I 1, I 1] rfl rfl 25 _ (HD.out.at 0 rfl) infoFt rfl (by simp [Value.oneCell']) ?_))
          have hput := HD.out.put 0 rfl #[I 1, I 1]
          simp only [List.set_cons_succ, List.set_cons_zero] at hput
          generalize World.setRow vc gz _ = vz at hput ⊢
          have HG := Lib.hid hput
          clear hput
          go_wp2_with fail
          (try simp only [Exit.inBlock, Exit.then])
          refine bodyPost_ret (v := .agg #[I 1, I 1]) ?_ rfl ⟨rfl, HG.out.bel⟩
          exact results_cell_row rfl _ _ gz 25 _ (0, 0) _ rfl (HG.out.at 0 rfl) Try.underlying25 rfl infoFt
        · unfold ft at hs
          rw [if_neg h1, if_neg h3, if_neg (by simp [h2])] at hs
          injection hs with e1 e2
          subst e1
          subst e2
          go_enter Try.func72, Try.ntmps72
          go_upto_region 1 with fail
          generalize World.alloc (World.alloc (World.alloc w _) _) _ = v at h0 ⊢
          generalize hgz : w.heap.size + 1 + 1 = gz at h0 ⊢
          generalize hgs : w.heap.size + 1 = gs at h0 ⊢
          generalize w.heap.size = gp at h0 ⊢
          clear hgz hgs
          have H0 := Lib.hid h0
          clear h0
          have k8 : v.cell? ⟨gp, 8, none⟩ = some (I p.walk) := H0.out.cell 2 8 rfl rfl
          have k9 : v.cell? ⟨gp, 9, none⟩ = some (I p.blinks) := H0.out.cell 2 9 rfl rfl
          rw [hk] at k8
          rw [hl] at k9
          have c0 : v.cell? ⟨gs, 0, none⟩ = some (I s) := H0.out.cell 1 0 rfl rfl
          have c1 : v.cell? ⟨gs, 1, none⟩ = some (I t) := H0.out.cell 1 1 rfl rfl
          go_wp2_with (first | (refine wpList_store_row rfl 25 _ _ rfl gz #[I 0, I 0] rfl rfl 25 _ (H0.out.at 0 rfl) infoFt rfl (by simp [Value.oneCell']) ?_))
          have hput := H0.out.put 0 rfl #[I 0, I 0]
          simp only [List.set_cons_succ, List.set_cons_zero] at hput
          generalize World.setRow v gz _ = vz at hput ⊢
          have HG := Lib.hid hput
          clear hput
          go_wp2_with fail
          (try simp only [Exit.inBlock, Exit.then])
          refine bodyPost_ret (v := .agg #[I 0, I 0]) ?_ rfl ⟨rfl, HG.out.bel⟩
          exact results_cell_row rfl _ _ gz 25 _ (0, 0) _ rfl (HG.out.at 0 rfl) Try.underlying25 rfl infoFt
theorem cut_is {s t a b : Int} (hs : cu s t = ⟨a, b⟩) (w : World) : Calls Try.prog 75 #[.agg #[I s, I t]] w fun e w' => e = .returned (.agg #[I a, I b]) ∧ Below w.heap.size w w' := by
  have h0 := ((Blk.Bks.nil w).alloc #[I s, I t] 25).alloc #[I 0, I 0] 25
  rw [show (w.alloc (.cells #[I s, I t] 25)).heap.size = w.heap.size + 1 by simp] at h0
  unfold cu at hs
  by_cases h1 : s = 1
  · subst h1
    rw [if_pos rfl] at hs
    injection hs with e1 e2
    subst e1 e2
    go_enter Try.func75, Try.ntmps75
    go_upto_region 1 with fail
    generalize World.alloc (World.alloc w _) _ = v at h0 ⊢
    generalize hgz : w.heap.size + 1 = gz at h0 ⊢
    generalize w.heap.size = gs at h0 ⊢
    clear hgz
    have H0 := Lib.hid h0
    clear h0
    have c0 : v.cell? ⟨gs, 0, none⟩ = some (I 1) := H0.out.cell 1 0 rfl rfl
    go_wp2_with fail
    refine (first_any 2 _).mono ?_
    rintro e vc ⟨rfl, bc⟩
    have HD := Lib.hid (H0.out.step bc)
    clear bc
    go_wp2_with (first | (refine wpList_store_row rfl 25 _ _ rfl gz #[I 2, I 1] rfl rfl 25 _ (HD.out.at 0 rfl) infoFt rfl (by simp [Value.oneCell']) ?_))
    have hput := HD.out.put 0 rfl #[I 2, I 1]
    simp only [List.set_cons_succ, List.set_cons_zero] at hput
    generalize World.setRow vc gz _ = vz at hput ⊢
    have HG := Lib.hid hput
    clear hput
    go_wp2_with fail
    (try simp only [Exit.inBlock, Exit.then])
    refine bodyPost_ret (v := .agg #[I 2, I 1]) ?_ rfl ⟨rfl, HG.out.bel⟩
    exact results_cell_row rfl _ _ gz 25 _ (0, 0) _ rfl (HG.out.at 0 rfl) Try.underlying25 rfl infoFt
  · rw [if_neg h1] at hs
    injection hs with e1 e2
    subst e1 e2
    go_enter Try.func75, Try.ntmps75
    go_upto_region 1 with fail
    generalize World.alloc (World.alloc w _) _ = v at h0 ⊢
    generalize hgz : w.heap.size + 1 = gz at h0 ⊢
    generalize w.heap.size = gs at h0 ⊢
    clear hgz
    have H0 := Lib.hid h0
    clear h0
    have c0 : v.cell? ⟨gs, 0, none⟩ = some (I s) := H0.out.cell 1 0 rfl rfl
    go_wp2_with (first | (refine Row.wpList_load_g 25 _ rfl (by first | rfl | (go_simp; done) | fail) ⟨gs, 0, none⟩ rfl [I s, I t] _ (by have := Row.lies_of_block (H0.out.at 1 rfl); simpa using this) Try.underlying25 rfl infoFt ?_) | (refine wpList_store_row rfl 25 _ _ rfl gz #[I s, I t] rfl rfl 25 _ (H0.out.at 0 rfl) infoFt rfl (by simp [Value.oneCell']) ?_))
    have hput := H0.out.put 0 rfl #[I s, I t]
    simp only [List.set_cons_succ, List.set_cons_zero] at hput
    generalize World.setRow v gz _ = vz at hput ⊢
    have HG := Lib.hid hput
    clear hput
    go_wp2_with fail
    (try simp only [Exit.inBlock, Exit.then])
    refine bodyPost_ret (v := .agg #[I s, I t]) ?_ rfl ⟨rfl, HG.out.bel⟩
    exact results_cell_row rfl _ _ gz 25 _ (0, 0) _ rfl (HG.out.at 0 rfl) Try.underlying25 rfl infoFt
theorem rcut_is {s t a b : Int} (hs : cu s t = ⟨a, b⟩) (w : World) : Calls Try.prog 49 #[.agg #[I s, I t]] w fun e w' => e = .returned (.agg #[I a, I b]) ∧ Below w.heap.size w w' := by
  have h0 := ((Blk.Bks.nil w).alloc #[I s, I t] 25).alloc #[I 0, I 0] 25
  rw [show (w.alloc (.cells #[I s, I t] 25)).heap.size = w.heap.size + 1 by simp] at h0
  unfold cu at hs
  by_cases h1 : s = 1
  · subst h1
    rw [if_pos rfl] at hs
    injection hs with e1 e2
    subst e1 e2
    go_enter Try.func49, Try.ntmps49
    go_upto_region 1 with fail
    generalize World.alloc (World.alloc w _) _ = v at h0 ⊢
    generalize hgz : w.heap.size + 1 = gz at h0 ⊢
    generalize w.heap.size = gs at h0 ⊢
    clear hgz
    have H0 := Lib.hid h0
    clear h0
    have c0 : v.cell? ⟨gs, 0, none⟩ = some (I 1) := H0.out.cell 1 0 rfl rfl
    go_wp2_with (first | (refine wpList_store_row rfl 25 _ _ rfl gz #[I 2, I 1] rfl rfl 25 _ (H0.out.at 0 rfl) infoFt rfl (by simp [Value.oneCell']) ?_))
    have hput := H0.out.put 0 rfl #[I 2, I 1]
    simp only [List.set_cons_succ, List.set_cons_zero] at hput
    generalize World.setRow v gz _ = vz at hput ⊢
    have HG := Lib.hid hput
    clear hput
    go_wp2_with fail
    (try simp only [Exit.inBlock, Exit.then])
    refine bodyPost_ret (v := .agg #[I 2, I 1]) ?_ rfl ⟨rfl, HG.out.bel⟩
    exact results_cell_row rfl _ _ gz 25 _ (0, 0) _ rfl (HG.out.at 0 rfl) Try.underlying25 rfl infoFt
  · rw [if_neg h1] at hs
    injection hs with e1 e2
    subst e1 e2
    go_enter Try.func49, Try.ntmps49
    go_upto_region 1 with fail
    generalize World.alloc (World.alloc w _) _ = v at h0 ⊢
    generalize hgz : w.heap.size + 1 = gz at h0 ⊢
    generalize w.heap.size = gs at h0 ⊢
    clear hgz
    have H0 := Lib.hid h0
    clear h0
    have c0 : v.cell? ⟨gs, 0, none⟩ = some (I s) := H0.out.cell 1 0 rfl rfl
    go_wp2_with (first | (refine Row.wpList_load_g 25 _ rfl (by first | rfl | (go_simp; done) | fail) ⟨gs, 0, none⟩ rfl [I s, I t] _ (by have := Row.lies_of_block (H0.out.at 1 rfl); simpa using this) Try.underlying25 rfl infoFt ?_) | (refine wpList_store_row rfl 25 _ _ rfl gz #[I s, I t] rfl rfl 25 _ (H0.out.at 0 rfl) infoFt rfl (by simp [Value.oneCell']) ?_))
    have hput := H0.out.put 0 rfl #[I s, I t]
    simp only [List.set_cons_succ, List.set_cons_zero] at hput
    generalize World.setRow v gz _ = vz at hput ⊢
    have HG := Lib.hid hput
    clear hput
    go_wp2_with fail
    (try simp only [Exit.inBlock, Exit.then])
    refine bodyPost_ret (v := .agg #[I s, I t]) ?_ rfl ⟨rfl, HG.out.bel⟩
    exact results_cell_row rfl _ _ gz 25 _ (0, 0) _ rfl (HG.out.at 0 rfl) Try.underlying25 rfl infoFt
def idl (s : Int) : Bool := s != 1 && s != 2
theorem idle_any (s t : Int) (w : World) : Calls Try.prog 50 #[.agg #[I s, I t]] w fun e w' => e = .returned (.bool (idl s)) ∧ Below w.heap.size w w' := by
  have h0 := (Blk.Bks.nil w).alloc #[I s, I t] 25
  by_cases h1 : s = 1
  · subst h1
    have HE : Hid (idl 1 = false) := Lib.hid (by unfold idl; simp)
    go_enter Try.func50, Try.ntmps50
    go_upto_region 1 with fail
    generalize World.alloc w _ = v at h0 ⊢
    generalize w.heap.size = gs at h0 ⊢
    have H0 := Lib.hid h0
    clear h0
    have c0 : v.cell? ⟨gs, 0, none⟩ = some (I 1) := H0.out.cell 0 0 rfl rfl
    go_wp2
    go_ret
    exact ⟨ret_bool HE.out.symm, H0.out.bel⟩
  · by_cases h3 : s = 2
    · subst h3
      have HE : Hid (idl 2 = false) := Lib.hid (by unfold idl; simp)
      go_enter Try.func50, Try.ntmps50
      go_upto_region 1 with fail
      generalize World.alloc w _ = v at h0 ⊢
      generalize w.heap.size = gs at h0 ⊢
      have H0 := Lib.hid h0
      clear h0
      have c0 : v.cell? ⟨gs, 0, none⟩ = some (I 2) := H0.out.cell 0 0 rfl rfl
      go_wp2
      go_ret
      exact ⟨ret_bool HE.out.symm, H0.out.bel⟩
    · have HE : Hid (idl s = (s != 1 && s != 2)) := Lib.hid (by rfl)
      go_enter Try.func50, Try.ntmps50
      go_upto_region 1 with fail
      generalize World.alloc w _ = v at h0 ⊢
      generalize w.heap.size = gs at h0 ⊢
      have H0 := Lib.hid h0
      clear h0
      have c0 : v.cell? ⟨gs, 0, none⟩ = some (I s) := H0.out.cell 0 0 rfl rfl
      go_wp2
      go_ret
      exact ⟨ret_bool HE.out.symm, H0.out.bel⟩
end Ped
namespace Ru
open Go Go.ChangeShapes Go.WideShapes Go.ChangeAt Go.RowKit
open Tab Flat TabArg QL
open May (infoP)
open Ped (ft cu idl Ft)
open Gap (lm lf gr Tn)
structure Ru where
  co : Int
  tm : Int
  fs : Int
  ft : Int
  lf : Int
  pr : Int
  ex : Int
  dn : Bool
  mx : Bool
  tl : Int
  tu : Int
  td : Int
deriving DecidableEq
structure Cu where
  st : Bool
  en : Bool
  he : Bool
  pu : Bool
  ps : Bool
  ho : Bool
  ea : Bool
  kt : Bool
deriving DecidableEq
def Ru.cells (r : Ru) : List Value := [I r.co, I r.tm, I r.fs, I r.ft, I r.lf, I r.pr, I r.ex, .bool r.dn, .bool r.mx, I r.tl, I r.tu, I r.td]
def Cu.cells (c : Cu) : List Value := [.bool c.st, .bool c.en, .bool c.he, .bool c.pu, .bool c.ps, .bool c.ho, .bool c.ea, .bool c.kt]
def tuC (p : Ph) (r : Ru) (c : Cu) : List Value := p.cells ++ (r.cells ++ c.cells)
theorem flRu5 : flat Try.prog 5 29 = some [3, 3, 3, 3, 3, 3, 3, 4, 4, 3, 3, 3] := by kernel_rfl
section
variable {H : Type} {enc : TypeId × Value → H} {P : Program} {w : World} {base : Nat} {spare : Nat → Bool} {held : Bool}
end
theorem ru_eqs (r q : Ru) : Same.Eqs 29 r.cells q.cells (decide (r = q)) := by
  obtain ⟨a0, a1, a2, a3, a4, a5, a6, a7, a8, a9, a10, a11⟩ := r
  obtain ⟨b0, b1, b2, b3, b4, b5, b6, b7, b8, b9, b10, b11⟩ := q
  refine Same.eqs_of flRu5 (by decide) (by kernel_rfl) [(I a0, I b0), (I a1, I b1), (I a2, I b2), (I a3, I b3), (I a4, I b4), (I a5, I b5), (I a6, I b6), (.bool a7, .bool b7), (.bool a8, .bool b8), (I a9, I b9), (I a10, I b10), (I a11, I b11)]
    ⟨Same.lint _ _, Same.lint _ _, Same.lint _ _, Same.lint _ _, Same.lint _ _, Same.lint _ _, Same.lint _ _, Same.lbool _ _, Same.lbool _ _, Same.lint _ _, Same.lint _ _, Same.lint _ _, trivial⟩ rfl rfl ?_
  simp [Ru.cells]
theorem ru_same (r : Ru) : Same.Eqs 29 r.cells r.cells true := by simpa using ru_eqs r r
theorem guardRu : Try.prog.eqGuardType Try.prog.depth 29 = false := by kernel_rfl
theorem infoRu : (Try.prog.info? 29).map (·.size) = some 12 := by kernel_rfl
theorem infoCu : (Try.prog.info? 31).map (·.size) = some 8 := by kernel_rfl
theorem infoTu : (Try.prog.info? 57).map (·.size) = some 33 := by kernel_rfl
theorem ret_bool {a b : Bool} (h : a = b) : Ending.returned (.bool a) = .returned (.bool b) := by rw [h]
theorem ret_ru {a b : Ru} (h : a = b) : Ending.returned (.agg a.cells.toArray) = .returned (.agg b.cells.toArray) := by rw [h]
theorem built0 : Try.prog.built 25 [] = some #[I 0, I 0] := by kernel_rfl
theorem builtT (r : Int) : Try.prog.built 27 [(0, I r)] = some #[I r, I 0, I 0] := by kernel_rfl
theorem built3 (k n a b c : Int) : Try.prog.built 29 [(0, I k), (1, I n), (8, .agg #[I a, I b, I c])] = some (Ru.cells ⟨k, n, 0, 0, 0, 0, 0, false, false, a, b, c⟩).toArray := by kernel_rfl
theorem built5 (k n s t l a b c : Int) : Try.prog.built 29 [(0, I k), (1, I n), (2, .agg #[I s, I t]), (3, I l), (8, .agg #[I a, I b, I c])] = some (Ru.cells ⟨k, n, s, t, l, 0, 0, false, false, a, b, c⟩).toArray := by kernel_rfl
theorem builtU (p : Ph) (r : Ru) (c : Cu) : Try.prog.built 57 [(0, .agg p.cells.toArray), (1, .agg r.cells.toArray), (2, .agg c.cells.toArray)] = some (tuC p r c).toArray := by kernel_rfl
theorem one_ru (r : Ru) : r.cells.toArray.all (·.oneCell') = true := by simp [Ru.cells, Value.oneCell']
theorem one_tu (p : Ph) (r : Ru) (c : Cu) : (tuC p r c).toArray.all (·.oneCell') = true := by simp [tuC, Ph.cells, Ru.cells, Cu.cells, Value.oneCell']
/-- A part of a block known whole. -/
theorem seg {w u : World} {L : List Blk.Bl} (h : Blk.Bks w L u) (i k : Nat) {g : Nat} {cs : Array Value} {t : TypeId} (hi : L[i]? = some (g, cs, t)) (l : List Value) (hs : (cs.toList.drop k).take l.length = l) : Lies u ⟨g, k, none⟩ l := fun j v hv => by
  rw [Addr.add_mid, cell_of_row _ _ _ _ _ _ (h.at i hi)]
  have hj : j < l.length := (List.getElem?_eq_some_iff.1 hv).1
  rw [← hs, List.getElem?_take, if_pos hj, List.getElem?_drop] at hv
  simpa using hv
/-- The steps of a walk over a block of the call's own: a part is stored. -/
theorem store_mid {P : Program} {ops : Array Oper} {rest : List Oper} {o : Oper} {a : Act} {w u : World} {L : List Blk.Bl} {Q : Exit → Act → World → Prop} (hgd : o.guard = none) (ty : TypeId) (x y : Operand) (ho : o.op = .store ty x y) (g off : Nat) (cells : Array Value) (hx : a.eval x = .pointer (some ⟨g, off, none⟩)) (hy : a.eval y = .agg cells)
    (t : TypeId) (cur V : Array Value) (H : Blk.Bks w L u) (i : Nat) (hb : L[i]? = some (g, cur, t)) (hi : (P.info? ty).map (·.size) = some cells.size) (hl : off + cells.size ≤ cur.size) (h1 : cells.all (·.oneCell') = true) (hV : (cur.toList.take off ++ cells.toList ++ cur.toList.drop (off + cells.size)).toArray = V)
    (h : wpList P ops Q rest (a.put o.dst undef) (u.setRow g V)) : wpList P ops Q (o :: rest) a u :=
  QL.wpList_store_mid hgd ty x y ho g off cells hx hy t cur (H.at i hb) hi hl h1 (by rw [hV]; exact h)
theorem wpList_build {P : Program} {ops : Array Oper} {Q : Exit → Act → World → Prop} {rest : List Oper} {o : Oper} {a : Act} {w : World} (hgd : o.guard = none) (t : TypeId) (parts : List (Nat × Operand)) (ho : o.op = .build t parts.toArray) (cells : Array Value) (vs : List (Nat × Value)) (hv : parts.map (fun (i, x) => (i, a.eval x)) = vs) (hb : P.built t vs = some cells)
    (h : wpList P ops Q rest (a.put o.dst (.agg cells)) w) : wpList P ops Q (o :: rest) a w :=
  wpList_plain hgd fun _ hK => by
    subst hv
    unfold Oper.wp execOp
    have hb' : P.built t (parts.toArray.map fun (i, x) => (i, a.eval x)).toList = some cells := by simpa using hb
    simp only [ho, Sem.run_bind, run_build w t _ _ hb', Result.andThen_ok, Sem.run_pure]
    exact hK _ _ h
/-! What a tick does. -/
variable (p : Ph) (r : Ru) (c : Cu)
def fst (k : Int) : Ru := ⟨k, 1, 0, 0, 0, 0, 0, false, false, r.tl, r.tu, r.td⟩
def lst (k : Int) : Ru := ⟨k, Cnt.more r.tm, 0, 0, 0, 0, 0, false, false, r.tl, r.tu, r.td⟩
def fooA : Ft := if c.kt = true ∧ r.fs = 1 then cu r.fs r.ft else ft p.walk p.blinks r.fs r.ft (c.pu && !c.ps)
/-- a walk begins -/
def beg : Bool := idl r.fs && decide ((fooA p r c).st = 1)
def lon : Ru := ⟨r.co, Cnt.more r.tm, (fooA p r c).st, (fooA p r c).tm, lf p.gap r.lf c.he, if c.ps then Cnt.more r.pr else r.pr, r.ex, r.dn && !beg p r c, r.mx && !beg p r c, r.tl, r.tu, r.td⟩
def fuB (n : Ru) : Bool := decide (lm p n.tl ≤ n.pr)
def duB (n : Ru) : Bool := c.ps && (!n.dn && (decide (p.min ≤ n.tm) && (idl n.fs && (decide (n.lf = 0) || (fuB p n || c.ea)))))
def sty (n : Ru) : Ru := if duB p c n then (if c.ho then { n with ex := Cnt.more n.ex } else { n with dn := true, mx := decide (0 < n.lf) && fuB p n }) else n
def tre : Tn := if r.dn then gr p ⟨r.tl, r.tu, r.td⟩ r.mx else ⟨r.tl, r.tu, r.td⟩
def fin : Ru := ⟨2, 1, 0, 0, 0, 0, 0, false, false, (tre p r).lim, (tre p r).up, (tre p r).down⟩
def yel : Ru := if r.tm < p.yellow then lst r 2 else if 0 < p.red then fst r 3 else fst r 0
def cle : Ru := if r.tm < p.red then lst r 3 else fst r 0
def rdR : Ru := if c.st then ⟨1, 1, (ft p.walk p.blinks 0 0 c.pu).st, (ft p.walk p.blinks 0 0 c.pu).tm, p.gap, 0, 0, false, false, r.tl, r.tu, r.td⟩ else lst r 0
def stp : Ru := if r.co = 1 then (if c.en then fin p r else sty p c (lon p r c)) else if r.co = 2 then yel p r else if r.co = 3 then cle p r else rdR p r c
def hld : Bool := decide (r.co = 1) && (!c.en && (c.ho && duB p c (lon p r c)))
def bgn : Ru := ⟨0, 9999, 0, 0, 0, 0, 0, false, false, p.max, 0, 0⟩
end Ru
end Go.Proofs.Ytbpfknkbiaplpaa
