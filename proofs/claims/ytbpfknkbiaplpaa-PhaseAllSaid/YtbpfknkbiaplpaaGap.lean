/- Package gap: contracts of Left, Begin, Limit, Grow, of the document's answers, and of the examples: at any phase, any counts. -/
import Derived.Test.YtbpfknkbiaplpaaRows
import Derived.Test.YtbpfknkbiaplpaaRow
import Derived.Test.YtbpfknkbiaplpaaBlk
import Derived.Test.YtbpfknkbiaplpaaCnt
import Derived.Test.YtbpfknkbiaplpaaHeld
import Derived.Test.YtbpfknkbiaplpaaTabArg
import Derived.Test.YtbpfknkbiaplpaaMayC
import Derived.Test.YtbpfknkbiaplpaaSameB
import Derived.Test.YtbpfknkbiaplpaaQL
import Derived.Deep.Cut
import Derived.StillTailTactics
namespace Go.Proofs.Ytbpfknkbiaplpaa.Gap
open Go.ChangeShapes Go.WideShapes Go.ChangeAt Go.RowKit
open Tab Flat TabArg
open May (infoP)
set_option linter.unusedVariables false
set_option linter.unusedSimpArgs false
set_option maxRecDepth 100000
structure Tn where
  lim : Int
  up : Int
  down : Int
deriving DecidableEq
def Tn.cells (s : Tn) : List Value := [I s.lim, I s.up, I s.down]
theorem flTn : flat Try.prog 4 27 = some [3, 3, 3] := by kernel_rfl
theorem flTn5 : flat Try.prog 5 27 = some [3, 3, 3] := by kernel_rfl
section
variable {H : Type} {enc : TypeId × Value → H} {P : Program} {w : World} {base : Nat} {spare : Nat → Bool} {held : Bool}
theorem tn_el : ∀ {cs : List Value}, All2 (Tr enc Try.prog w base spare held) [3, 3, 3] cs → ∃ d : Tn, cs = d.cells
  | [_, _, _], ⟨h0, h1, h2, _⟩ => by
    obtain ⟨v0, rfl⟩ := tr_int Try.underlying3 h0
    obtain ⟨v1, rfl⟩ := tr_int Try.underlying3 h1
    obtain ⟨v2, rfl⟩ := tr_int Try.underlying3 h2
    exact ⟨⟨v0, v1, v2⟩, rfl⟩
end
theorem tn_eqs (a b c : Int) : Same.Eqs 27 [I a, I b, I c] [I a, I b, I c] true := by
  have := Same.eqs_of (p := True) flTn5 (by decide) (by kernel_rfl) [(I a, I a), (I b, I b), (I c, I c)] ⟨Same.lint _ _, Same.lint _ _, Same.lint _ _, trivial⟩ rfl rfl (by simp)
  simpa using this
theorem guardTn : Try.prog.eqGuardType Try.prog.depth 27 = false := by kernel_rfl
theorem infoTn : (Try.prog.info? 27).map (·.size) = some 3 := by kernel_rfl
theorem built1 (r : Int) : Try.prog.built 27 [(0, I r)] = some #[I r, I 0, I 0] := by kernel_rfl
theorem ret_int {k : IntKind} {a b : Int} (h : a = b) : Ending.returned (.int k a) = .returned (.int k b) := by rw [h]
/-- one step's number, wrapped -/
abbrev wr (n : Int) : Int := wrap64 n
def lm (p : Ph) (n : Int) : Int := if (if p.top < n then p.top else n) < p.max then p.max else if p.top < n then p.top else n
def lf (g n : Int) (b : Bool) : Int := if b = true then g else if 9999 < n then 9998 else if 0 < n then n - 1 else 0
def gr (p : Ph) (s : Tn) (b : Bool) : Tn :=
  if b = true then (if s.up < 1 then ⟨lm p s.lim, 1, 0⟩ else ⟨lm p (wr (lm p s.lim + p.step)), 0, 0⟩)
  else (if s.down < 1 then ⟨lm p s.lim, 0, 1⟩ else ⟨lm p (wr (lm p s.lim - p.step)), 0, 0⟩)
theorem wr_neg (a b : Int) : wr (a + wr (-b)) = wr (a - b) := by
  unfold wr wrap64; omega
set_option maxHeartbeats 4000000 in
theorem lim_any (p : Ph) (n u d : Int) (w : World) : Calls Try.prog 74 #[.agg p.cells.toArray, .agg #[I n, I u, I d]] w fun e w' => e = .returned (.int .i64 (lm p n)) ∧ Below w.heap.size w w' := by
  have h0 := ((Blk.Bks.nil w).alloc p.cells.toArray 23).alloc #[I n, I u, I d] 27
  rw [show (w.alloc (.cells p.cells.toArray 23)).heap.size = w.heap.size + 1 by simp] at h0
  have HE0 : Hid (lm p n = if (if p.top < n then p.top else n) < p.max then p.max else if p.top < n then p.top else n) := Lib.hid rfl
  obtain ⟨mx, hmx⟩ : ∃ m, p.max = m := ⟨_, rfl⟩
  obtain ⟨tp, htp⟩ : ∃ m, p.top = m := ⟨_, rfl⟩
  rw [hmx, htp] at HE0
  by_cases h1 : tp < n
  · by_cases h2 : tp < mx
    · have HE : Hid (lm p n = mx) := Lib.hid (by rw [HE0.out]; simp only [h1, h2, if_true, if_false])
      have em : min n tp = tp := by omega
      have ex : max (tp) mx = mx := by omega
      clear HE0
      go_enter Try.func74, Try.ntmps74
      go_upto_region 1 with fail
      generalize World.alloc (World.alloc w _) _ = v at h0 ⊢
      generalize hgs : w.heap.size + 1 = gs at h0 ⊢
      generalize w.heap.size = gp at h0 ⊢
      clear hgs
      have H0 := Lib.hid h0
      clear h0
      have k3 : v.cell? ⟨gp, 3, none⟩ = some (I p.max) := H0.out.cell 1 3 rfl rfl
      have k4 : v.cell? ⟨gp, 4, none⟩ = some (I p.top) := H0.out.cell 1 4 rfl rfl
      have c0 : v.cell? ⟨gs, 0, none⟩ = some (I n) := H0.out.cell 0 0 rfl rfl
      rw [hmx] at k3
      rw [htp] at k4
      clear hmx htp
      go_wp2
      go_ret
      exact ⟨ret_int (HE.out.symm), H0.out.bel⟩
    · have HE : Hid (lm p n = tp) := Lib.hid (by rw [HE0.out]; simp only [h1, h2, if_true, if_false])
      have em : min n tp = tp := by omega
      have ex : max (tp) mx = tp := by omega
      clear HE0
      go_enter Try.func74, Try.ntmps74
      go_upto_region 1 with fail
      generalize World.alloc (World.alloc w _) _ = v at h0 ⊢
      generalize hgs : w.heap.size + 1 = gs at h0 ⊢
      generalize w.heap.size = gp at h0 ⊢
      clear hgs
      have H0 := Lib.hid h0
      clear h0
      have k3 : v.cell? ⟨gp, 3, none⟩ = some (I p.max) := H0.out.cell 1 3 rfl rfl
      have k4 : v.cell? ⟨gp, 4, none⟩ = some (I p.top) := H0.out.cell 1 4 rfl rfl
      have c0 : v.cell? ⟨gs, 0, none⟩ = some (I n) := H0.out.cell 0 0 rfl rfl
      rw [hmx] at k3
      rw [htp] at k4
      clear hmx htp
      go_wp2
      go_ret
      exact ⟨ret_int (HE.out.symm), H0.out.bel⟩
  · by_cases h2 : n < mx
    · have HE : Hid (lm p n = mx) := Lib.hid (by rw [HE0.out]; simp only [h1, h2, if_true, if_false])
      have em : min n tp = n := by omega
      have ex : max (n) mx = mx := by omega
      clear HE0
      go_enter Try.func74, Try.ntmps74
      go_upto_region 1 with fail
      generalize World.alloc (World.alloc w _) _ = v at h0 ⊢
      generalize hgs : w.heap.size + 1 = gs at h0 ⊢
      generalize w.heap.size = gp at h0 ⊢
      clear hgs
      have H0 := Lib.hid h0
      clear h0
      have k3 : v.cell? ⟨gp, 3, none⟩ = some (I p.max) := H0.out.cell 1 3 rfl rfl
      have k4 : v.cell? ⟨gp, 4, none⟩ = some (I p.top) := H0.out.cell 1 4 rfl rfl
      have c0 : v.cell? ⟨gs, 0, none⟩ = some (I n) := H0.out.cell 0 0 rfl rfl
      rw [hmx] at k3
      rw [htp] at k4
      clear hmx htp
      go_wp2
      go_ret
      exact ⟨ret_int (HE.out.symm), H0.out.bel⟩
    · have HE : Hid (lm p n = n) := Lib.hid (by rw [HE0.out]; simp only [h1, h2, if_true, if_false])
      have em : min n tp = n := by omega
      have ex : max (n) mx = n := by omega
      clear HE0
      go_enter Try.func74, Try.ntmps74
      go_upto_region 1 with fail
      generalize World.alloc (World.alloc w _) _ = v at h0 ⊢
      generalize hgs : w.heap.size + 1 = gs at h0 ⊢
      generalize w.heap.size = gp at h0 ⊢
      clear hgs
      have H0 := Lib.hid h0
      clear h0
      have k3 : v.cell? ⟨gp, 3, none⟩ = some (I p.max) := H0.out.cell 1 3 rfl rfl
      have k4 : v.cell? ⟨gp, 4, none⟩ = some (I p.top) := H0.out.cell 1 4 rfl rfl
      have c0 : v.cell? ⟨gs, 0, none⟩ = some (I n) := H0.out.cell 0 0 rfl rfl
      rw [hmx] at k3
      rw [htp] at k4
      clear hmx htp
      go_wp2
      go_ret
      exact ⟨ret_int (HE.out.symm), H0.out.bel⟩
set_option maxHeartbeats 4000000 in
theorem rlim_any (p : Ph) (n u d : Int) (w : World) : Calls Try.prog 21 #[.agg p.cells.toArray, .agg #[I n, I u, I d]] w fun e w' => e = .returned (.int .i64 (lm p n)) ∧ Below w.heap.size w w' := by
  have h0 := ((Blk.Bks.nil w).alloc p.cells.toArray 23).alloc #[I n, I u, I d] 27
  rw [show (w.alloc (.cells p.cells.toArray 23)).heap.size = w.heap.size + 1 by simp] at h0
  have HE0 : Hid (lm p n = if (if p.top < n then p.top else n) < p.max then p.max else if p.top < n then p.top else n) := Lib.hid rfl
  obtain ⟨mx, hmx⟩ : ∃ m, p.max = m := ⟨_, rfl⟩
  obtain ⟨tp, htp⟩ : ∃ m, p.top = m := ⟨_, rfl⟩
  rw [hmx, htp] at HE0
  by_cases h1 : tp < n
  · by_cases h2 : tp < mx
    · have HE : Hid (lm p n = mx) := Lib.hid (by rw [HE0.out]; simp only [h1, h2, if_true, if_false])
      have em : min n tp = tp := by omega
      have ex : max (tp) mx = mx := by omega
      clear HE0
      go_enter Try.func21, Try.ntmps21
      go_upto_region 1 with fail
      generalize World.alloc (World.alloc w _) _ = v at h0 ⊢
      generalize hgs : w.heap.size + 1 = gs at h0 ⊢
      generalize w.heap.size = gp at h0 ⊢
      clear hgs
      have H0 := Lib.hid h0
      clear h0
      have k3 : v.cell? ⟨gp, 3, none⟩ = some (I p.max) := H0.out.cell 1 3 rfl rfl
      have k4 : v.cell? ⟨gp, 4, none⟩ = some (I p.top) := H0.out.cell 1 4 rfl rfl
      have c0 : v.cell? ⟨gs, 0, none⟩ = some (I n) := H0.out.cell 0 0 rfl rfl
      rw [hmx] at k3
      rw [htp] at k4
      clear hmx htp
      go_wp2
      go_ret
      exact ⟨ret_int (HE.out.symm), H0.out.bel⟩
    · have HE : Hid (lm p n = tp) := Lib.hid (by rw [HE0.out]; simp only [h1, h2, if_true, if_false])
      have em : min n tp = tp := by omega
      have ex : max (tp) mx = tp := by omega
      clear HE0
      go_enter Try.func21, Try.ntmps21
      go_upto_region 1 with fail
      generalize World.alloc (World.alloc w _) _ = v at h0 ⊢
      generalize hgs : w.heap.size + 1 = gs at h0 ⊢
      generalize w.heap.size = gp at h0 ⊢
      clear hgs
      have H0 := Lib.hid h0
      clear h0
      have k3 : v.cell? ⟨gp, 3, none⟩ = some (I p.max) := H0.out.cell 1 3 rfl rfl
      have k4 : v.cell? ⟨gp, 4, none⟩ = some (I p.top) := H0.out.cell 1 4 rfl rfl
      have c0 : v.cell? ⟨gs, 0, none⟩ = some (I n) := H0.out.cell 0 0 rfl rfl
      rw [hmx] at k3
      rw [htp] at k4
      clear hmx htp
      go_wp2
      go_ret
      exact ⟨ret_int (HE.out.symm), H0.out.bel⟩
  · by_cases h2 : n < mx
    · have HE : Hid (lm p n = mx) := Lib.hid (by rw [HE0.out]; simp only [h1, h2, if_true, if_false])
      have em : min n tp = n := by omega
      have ex : max (n) mx = mx := by omega
      clear HE0
      go_enter Try.func21, Try.ntmps21
      go_upto_region 1 with fail
      generalize World.alloc (World.alloc w _) _ = v at h0 ⊢
      generalize hgs : w.heap.size + 1 = gs at h0 ⊢
      generalize w.heap.size = gp at h0 ⊢
      clear hgs
      have H0 := Lib.hid h0
      clear h0
      have k3 : v.cell? ⟨gp, 3, none⟩ = some (I p.max) := H0.out.cell 1 3 rfl rfl
      have k4 : v.cell? ⟨gp, 4, none⟩ = some (I p.top) := H0.out.cell 1 4 rfl rfl
      have c0 : v.cell? ⟨gs, 0, none⟩ = some (I n) := H0.out.cell 0 0 rfl rfl
      rw [hmx] at k3
      rw [htp] at k4
      clear hmx htp
      go_wp2
      go_ret
      exact ⟨ret_int (HE.out.symm), H0.out.bel⟩
    · have HE : Hid (lm p n = n) := Lib.hid (by rw [HE0.out]; simp only [h1, h2, if_true, if_false])
      have em : min n tp = n := by omega
      have ex : max (n) mx = n := by omega
      clear HE0
      go_enter Try.func21, Try.ntmps21
      go_upto_region 1 with fail
      generalize World.alloc (World.alloc w _) _ = v at h0 ⊢
      generalize hgs : w.heap.size + 1 = gs at h0 ⊢
      generalize w.heap.size = gp at h0 ⊢
      clear hgs
      have H0 := Lib.hid h0
      clear h0
      have k3 : v.cell? ⟨gp, 3, none⟩ = some (I p.max) := H0.out.cell 1 3 rfl rfl
      have k4 : v.cell? ⟨gp, 4, none⟩ = some (I p.top) := H0.out.cell 1 4 rfl rfl
      have c0 : v.cell? ⟨gs, 0, none⟩ = some (I n) := H0.out.cell 0 0 rfl rfl
      rw [hmx] at k3
      rw [htp] at k4
      clear hmx htp
      go_wp2
      go_ret
      exact ⟨ret_int (HE.out.symm), H0.out.bel⟩
def ls (n : Int) : Int := if 9999 < n then 9998 else if 0 < n then n - 1 else 0
theorem less_any (n : Int) (w : World) : Calls Try.prog 73 #[.int .i64 n] w fun e w' => e = .returned (.int .i64 (ls n)) ∧ w = w' := by
  have h0 := Cnt.ct_lo (n := n) (a := 0) (b := 9999) (by decide)
  have h1 := Cnt.ct_hi (n := n) (a := 0) (b := 9999) (by decide)
  have hl : ls n = if Cnt.ct n 0 9999 = 0 then 0 else Cnt.ct n 0 9999 - 1 := by unfold ls Cnt.ct; split <;> (try split) <;> (try split) <;> (try split) <;> omega
  obtain ⟨c, hc⟩ : ∃ c, Cnt.ct n 0 9999 = c := ⟨_, rfl⟩
  have CC : Hid (∀ W, Calls Try.prog 38 #[.int .i64 n, .int .i64 0, .int .i64 9999] W fun e w' => e = .returned (.int .i64 c) ∧ W = w') := Lib.hid (fun W => by rw [← hc]; exact Cnt.rcut_any n 0 9999 W)
  rw [hc] at h0 h1 hl
  clear hc
  by_cases hz : c = 0
  · have HE : Hid (ls n = 0) := Lib.hid (by rw [hl, if_pos hz])
    subst hz
    clear hl h0 h1
    go_enter Try.func73, Try.ntmps73
    go_wp2_with (go_at_call 38; refine (CC.out _).mono ?_; rintro e w' ⟨rfl, rfl⟩)
    go_ret
    exact ⟨ret_int HE.out.symm, rfl⟩
  · have HE : Hid (ls n = c - 1) := Lib.hid (by rw [hl, if_neg hz])
    have em : IntKind.i64.wrap (c - 1) = c - 1 := by rw [IntKind.wrap_i64]; omega
    clear hl
    go_enter Try.func73, Try.ntmps73
    go_wp2_with (go_at_call 38; refine (CC.out _).mono ?_; rintro e w' ⟨rfl, rfl⟩)
    go_ret
    exact ⟨ret_int HE.out.symm, rfl⟩
set_option maxHeartbeats 4000000 in
theorem left_any (p : Ph) (n : Int) (b : Bool) (w : World) : Calls Try.prog 57 #[.agg p.cells.toArray, .int .i64 n, .bool b] w fun e w' => e = .returned (.int .i64 (lf p.gap n b)) ∧ Below w.heap.size w w' := by
  have h0 := (Blk.Bks.nil w).alloc p.cells.toArray 23
  cases b
  · by_cases h1 : 9999 < n
    · have HE : Hid (lf p.gap n false = 9998) := Lib.hid (by unfold lf; simp [h1])
      go_enter Try.func57, Try.ntmps57
      go_upto_region 1 with fail
      generalize World.alloc w _ = v at h0 ⊢
      generalize w.heap.size = gp at h0 ⊢
      have H0 := Lib.hid h0
      clear h0
      have k2 : v.cell? ⟨gp, 2, none⟩ = some (I p.gap) := H0.out.cell 0 2 rfl rfl
      go_wp2_with fail
      go_ret
      exact ⟨ret_int HE.out.symm, H0.out.bel⟩
    · by_cases h2 : 0 < n
      · have em : IntKind.i64.wrap (n - 1) = n - 1 := by rw [IntKind.wrap_i64]; omega
        have HE : Hid (lf p.gap n false = n - 1) := Lib.hid (by unfold lf; simp [h1, h2])
        go_enter Try.func57, Try.ntmps57
        go_upto_region 1 with fail
        generalize World.alloc w _ = v at h0 ⊢
        generalize w.heap.size = gp at h0 ⊢
        have H0 := Lib.hid h0
        clear h0
        have k2 : v.cell? ⟨gp, 2, none⟩ = some (I p.gap) := H0.out.cell 0 2 rfl rfl
        go_wp2_with fail
        go_ret
        exact ⟨ret_int HE.out.symm, H0.out.bel⟩
      · have HE : Hid (lf p.gap n false = 0) := Lib.hid (by unfold lf; simp [h1, h2])
        go_enter Try.func57, Try.ntmps57
        go_upto_region 1 with fail
        generalize World.alloc w _ = v at h0 ⊢
        generalize w.heap.size = gp at h0 ⊢
        have H0 := Lib.hid h0
        clear h0
        have k2 : v.cell? ⟨gp, 2, none⟩ = some (I p.gap) := H0.out.cell 0 2 rfl rfl
        go_wp2_with fail
        go_ret
        exact ⟨ret_int HE.out.symm, H0.out.bel⟩
  · have HE : Hid (lf p.gap n true = p.gap) := Lib.hid (by unfold lf; simp [])
    go_enter Try.func57, Try.ntmps57
    go_upto_region 1 with fail
    generalize World.alloc w _ = v at h0 ⊢
    generalize w.heap.size = gp at h0 ⊢
    have H0 := Lib.hid h0
    clear h0
    have k2 : v.cell? ⟨gp, 2, none⟩ = some (I p.gap) := H0.out.cell 0 2 rfl rfl
    go_wp2_with fail
    go_ret
    exact ⟨ret_int HE.out.symm, H0.out.bel⟩
set_option maxHeartbeats 4000000 in
theorem rleft_any (p : Ph) (n : Int) (b : Bool) (w : World) : Calls Try.prog 51 #[.agg p.cells.toArray, .int .i64 n, .bool b] w fun e w' => e = .returned (.int .i64 (lf p.gap n b)) ∧ Below w.heap.size w w' := by
  have h0 := (Blk.Bks.nil w).alloc p.cells.toArray 23
  cases b
  · have HE : Hid (lf p.gap n false = ls n) := Lib.hid (by unfold lf ls; simp)
    go_enter Try.func51, Try.ntmps51
    go_upto_region 1 with fail
    generalize World.alloc w _ = v at h0 ⊢
    generalize w.heap.size = gp at h0 ⊢
    have H0 := Lib.hid h0
    clear h0
    have k2 : v.cell? ⟨gp, 2, none⟩ = some (I p.gap) := H0.out.cell 0 2 rfl rfl
    go_wp2_with (go_at_call 73; refine (less_any _ _).mono ?_; rintro e w' ⟨rfl, rfl⟩)
    go_ret
    exact ⟨ret_int HE.out.symm, H0.out.bel⟩
  · have HE : Hid (lf p.gap n true = p.gap) := Lib.hid (by unfold lf; simp [])
    go_enter Try.func51, Try.ntmps51
    go_upto_region 1 with fail
    generalize World.alloc w _ = v at h0 ⊢
    generalize w.heap.size = gp at h0 ⊢
    have H0 := Lib.hid h0
    clear h0
    have k2 : v.cell? ⟨gp, 2, none⟩ = some (I p.gap) := H0.out.cell 0 2 rfl rfl
    go_wp2_with (go_at_call 73; refine (less_any _ _).mono ?_; rintro e w' ⟨rfl, rfl⟩)
    go_ret
    exact ⟨ret_int HE.out.symm, H0.out.bel⟩
set_option maxHeartbeats 4000000 in
theorem begin_any (p : Ph) (w : World) : Calls Try.prog 29 #[.agg p.cells.toArray] w fun e w' => e = .returned (.agg #[I p.max, I 0, I 0]) ∧ Below w.heap.size w w' := by
  have h0 := ((Blk.Bks.nil w).alloc p.cells.toArray 23).alloc #[I 0, I 0, I 0] 27
  rw [show (w.alloc (.cells p.cells.toArray 23)).heap.size = w.heap.size + 1 by simp] at h0
  go_enter Try.func29, Try.ntmps29
  go_upto_region 1 with fail
  generalize World.alloc (World.alloc w _) _ = v at h0 ⊢
  generalize hgz : w.heap.size + 1 = gz at h0 ⊢
  generalize w.heap.size = gp at h0 ⊢
  clear hgz
  have H0 := Lib.hid h0
  clear h0
  have k3 : v.cell? ⟨gp, 3, none⟩ = some (I p.max) := H0.out.cell 1 3 rfl rfl
  go_wp2_with (refine wpList_store_row rfl 27 _ _ rfl gz #[I p.max, I 0, I 0] rfl rfl 27 _ (H0.out.at 0 rfl) infoTn rfl (by simp [Value.oneCell']) ?_)
  have hput := H0.out.put 0 rfl #[I p.max, I 0, I 0]
  simp only [List.set_cons_succ, List.set_cons_zero] at hput
  generalize World.setRow v gz _ = v2 at hput ⊢
  have HG := Lib.hid hput
  clear hput
  go_wp2_with fail
  (try simp only [Exit.inBlock, Exit.then])
  refine bodyPost_ret (v := .agg #[I p.max, I 0, I 0]) ?_ rfl ⟨rfl, HG.out.bel⟩
  exact results_cell_row rfl _ _ gz 27 _ (0, 0) _ rfl (HG.out.at 0 rfl) Try.underlying27 rfl infoTn
end Go.Proofs.Ytbpfknkbiaplpaa.Gap
