/- Package delay: the document's own answer, its contract, and what a run of ticks does. -/
import Derived.Test.YtbmcendlpeaaeaaRows
import Derived.Test.YtbmcendlpeaaeaaCnt
import Derived.Test.YtbmcendlpeaaeaaTabArg
import Derived.Test.YtbmcendlpeaaeaaBlk
import Derived.Test.YtbmcendlpeaaeaaArg
import Derived.StillTailTactics
import Derived.Deep.Cut
import Derived.Laws.Tables
import Derived.Laws.CopyOwn
import Derived.Laws.Rows
import Derived.Deep.RegionHeld3
namespace Go.Proofs.Ytbmcendlpeaaeaa.Dly
open Go.ChangeShapes Go.WideShapes Go.ChangeAt Go.RowKit
open Tab Flat TabArg
open Cnt (more ct)
set_option linter.unusedVariables false
set_option linter.unusedSimpArgs false
structure Tm where
  held : Int
  tail : Int
  out : Bool
deriving DecidableEq
def Tm.cells (s : Tm) : List Value := [I s.held, I s.tail, .bool s.out]
instance : Inhabited Tm := ⟨⟨0, 0, false⟩⟩
theorem flT : flat Try.prog 4 61 = some [3, 3, 4] := by kernel_rfl
section
variable {H : Type} {enc : TypeId × Value → H} {P : Program} {w : World} {base : Nat} {spare : Nat → Bool} {held : Bool}
theorem tm_el : ∀ {cs : List Value}, All2 (Tr enc Try.prog w base spare held) [3, 3, 4] cs → ∃ d : Tm, cs = d.cells
  | [_, _, _], ⟨h0, h1, h2, _⟩ => by
    obtain ⟨v0, rfl⟩ := tr_int Try.underlying3 h0
    obtain ⟨v1, rfl⟩ := tr_int Try.underlying3 h1
    obtain ⟨v2, rfl⟩ := tr_bool Try.underlying4 h2
    exact ⟨⟨v0, v1, v2⟩, rfl⟩
end
theorem infoT : (Try.prog.info? 61).map (·.size) = some 3 := by kernel_rfl
/-- One tick. -/
def tmr (d e : Int) (s : Tm) (i : Bool) : Tm :=
  let h := if i = true then more s.held else 0
  if ct d 0 9999 < h then ⟨h, ct e 0 9999, true⟩ else if s.out = true ∧ 0 < ct s.tail 0 9999 then ⟨h, ct s.tail 0 9999 - 1, true⟩ else ⟨h, 0, false⟩
/-! ### by dly.py -/
theorem limit_any (n : Int) (w : World) : Calls Try.prog 66 #[.int .i64 n] w fun e w' => e = .returned (.int .i64 (ct n 0 9999)) ∧ w = w' := by
  by_cases h1 : n < 0
  · have HE : Hid (ct n 0 9999 = 0) := Lib.hid (by unfold ct; rw [if_pos h1])
    have em : max n 0 = 0 := by omega
    go_enter Try.func66, Try.ntmps66
    go_wp2
    go_ret
    exact ⟨Cnt.ret_int HE.out.symm, rfl⟩
  by_cases h2 : 9999 < n
  · have HE : Hid (ct n 0 9999 = 9999) := Lib.hid (by unfold ct; rw [if_neg h1, if_pos h2])
    go_enter Try.func66, Try.ntmps66
    go_wp2
    go_ret
    exact ⟨Cnt.ret_int HE.out.symm, rfl⟩
  · have HE : Hid (ct n 0 9999 = n) := Lib.hid (by unfold ct; rw [if_neg h1, if_neg h2])
    go_enter Try.func66, Try.ntmps66
    go_wp2
    go_ret
    exact ⟨Cnt.ret_int HE.out.symm, rfl⟩
theorem oneMore_any (n : Int) (w : World) : Calls Try.prog 65 #[.int .i64 n] w fun e w' => e = .returned (.int .i64 (more n)) ∧ w = w' := by
  have h0 := Cnt.ct_lo (n := n) (a := 0) (b := 9999) (by decide)
  have h1 := Cnt.ct_hi (n := n) (a := 0) (b := 9999) (by decide)
  have e1 : IntKind.i64.wrap (ct n 0 9999 + 1) = ct n 0 9999 + 1 := by rw [IntKind.wrap_i64]; omega
  go_enter Try.func65, Try.ntmps65
  go_wp2_with (go_at_call 66; refine (limit_any _ _).mono ?_; rintro e w' ⟨rfl, rfl⟩)
  go_ret
  exact ⟨rfl, rfl⟩
theorem limit_is {n c : Int} (h : ct n 0 9999 = c) (w : World) : Calls Try.prog 66 #[.int .i64 n] w fun e w' => e = .returned (.int .i64 c) ∧ w = w' := by rw [← h]; exact limit_any n w
def fd (c : Int) (o : Bool) : Tm := if o = true ∧ 0 < c then ⟨0, c - 1, true⟩ else ⟨0, 0, false⟩
set_option maxHeartbeats 8000000 in
theorem fade_is {h t c : Int} {o : Bool} (hc : ct t 0 9999 = c) (w : World) : Calls Try.prog 67 #[.agg #[I h, I t, .bool o]] w fun e w' => e = .returned (.agg (fd c o).cells.toArray) ∧ Below w.heap.size w w' := by
  have c0 := Cnt.ct_lo (n := t) (a := 0) (b := 9999) (by decide)
  have c1 := Cnt.ct_hi (n := t) (a := 0) (b := 9999) (by decide)
  rw [hc] at c0 c1
  have HC := Lib.hid hc
  clear hc
  have h0 := ((Blk.Bks.nil w).alloc #[I h, I t, .bool o] 61).alloc #[I 0, I 0, .bool false] 61
  rw [show (w.alloc (.cells #[I h, I t, .bool o] 61)).heap.size = w.heap.size + 1 by simp] at h0
  cases o
  · go_enter Try.func67, Try.ntmps67
    go_upto_region 1 with fail
    generalize World.alloc (World.alloc w _) _ = u at h0 ⊢
    generalize hgz : w.heap.size + 1 = gz at h0 ⊢
    generalize w.heap.size = gs at h0 ⊢
    clear hgz
    have k1 : u.cell? ⟨gs, 1, none⟩ = some (I t) := h0.cell 1 1 rfl rfl
    have k2 : u.cell? ⟨gs, 2, none⟩ = some (.bool false) := h0.cell 1 2 rfl rfl
    have n1 := World.new_ne u _ k1
    have n2 := World.new_ne u _ k2
    have H0 := Lib.hid h0
    clear h0
    go_region_held3 (fun w' => w'.cell? ⟨gs, 1, none⟩ = some (I t) ∧ w'.cell? ⟨gs, 2, none⟩ = some (.bool false)) (go_keep)
      (first | (go_at_call 66; refine (limit_is HC.out _).mono ?_; rintro e w' ⟨rfl, rfl⟩))
    all_goals
      clear k1 k2 n1 n2
      first
        | (refine (show Exit.then _ _ Exit.normal _ (World.drew (World.alloc (World.alloc u (.cells #[I 0, I c, .bool false] 61)) (.cells #[I 0, I 0, .bool true] 61))) from ?_)
           have ha := ((H0.out.alloc #[I 0, I c, .bool false] 61).alloc #[I 0, I 0, .bool true] 61).drew
           rw [show (u.alloc (.cells #[I 0, I c, .bool false] 61)).heap.size = u.heap.size + 1 by simp] at ha
           generalize World.drew (World.alloc (World.alloc u (.cells #[I 0, I c, .bool false] 61)) (.cells #[I 0, I 0, .bool true] 61)) = v at ha ⊢
           generalize hgb : u.heap.size + 1 = gb at ha ⊢
           generalize u.heap.size = ga at ha ⊢
           clear hgb
           have HA := Lib.hid ha
           clear ha H0)
        | (refine (show Exit.then _ _ Exit.normal _ (World.drew (World.alloc (World.alloc u (.cells #[I 0, I 0, .bool true] 61)) (.cells #[I 0, I c, .bool false] 61))) from ?_)
           have ha := ((H0.out.alloc #[I 0, I 0, .bool true] 61).alloc #[I 0, I c, .bool false] 61).drew.swap
           rw [show (u.alloc (.cells #[I 0, I 0, .bool true] 61)).heap.size = u.heap.size + 1 by simp] at ha
           generalize World.drew (World.alloc (World.alloc u (.cells #[I 0, I 0, .bool true] 61)) (.cells #[I 0, I c, .bool false] 61)) = v at ha ⊢
           generalize hga : u.heap.size + 1 = ga at ha ⊢
           generalize u.heap.size = gb at ha ⊢
           clear hga
           have HA := Lib.hid ha
           clear ha H0)
      have k0_0 : v.cell? ⟨gb, 0, none⟩ = some (I 0) := HA.out.cell 0 0 rfl rfl
      have k0_1 : v.cell? ⟨gb, 1, none⟩ = some (I 0) := HA.out.cell 0 1 rfl rfl
      have k0_2 : v.cell? ⟨gb, 2, none⟩ = some (Value.bool true) := HA.out.cell 0 2 rfl rfl
      have k1_0 : v.cell? ⟨ga, 0, none⟩ = some (I 0) := HA.out.cell 1 0 rfl rfl
      have k1_1 : v.cell? ⟨ga, 1, none⟩ = some (I c) := HA.out.cell 1 1 rfl rfl
      have k1_2 : v.cell? ⟨ga, 2, none⟩ = some (Value.bool false) := HA.out.cell 1 2 rfl rfl
      go_wp2_with (refine wpList_store_row rfl 61 _ _ rfl gz #[I 0, I 0, Value.bool false] rfl rfl 61 _ (HA.out.at 2 rfl) infoT rfl (by simp [Value.oneCell']) ?_)
      have hput := HA.out.put 2 rfl #[I 0, I 0, Value.bool false]
      simp only [List.set_cons_succ, List.set_cons_zero] at hput
      generalize World.setRow _ gz _ = v2 at hput ⊢
      have HE := Lib.hid hput
      clear hput
      go_wp2_with fail
      (try simp only [Exit.inBlock, Exit.then])
      refine bodyPost_ret (v := .agg #[I 0, I 0, Value.bool false]) ?_ rfl ⟨rfl, HE.out.bel⟩
      exact results_cell_row rfl _ _ gz 61 _ (0, 0) _ rfl (HE.out.at 2 rfl) Try.underlying61 rfl infoT
  · rcases (show 0 = c ∨ 0 < c by omega) with e0 | e0
    · subst e0
      go_enter Try.func67, Try.ntmps67
      go_upto_region 1 with fail
      generalize World.alloc (World.alloc w _) _ = u at h0 ⊢
      generalize hgz : w.heap.size + 1 = gz at h0 ⊢
      generalize w.heap.size = gs at h0 ⊢
      clear hgz
      have k1 : u.cell? ⟨gs, 1, none⟩ = some (I t) := h0.cell 1 1 rfl rfl
      have k2 : u.cell? ⟨gs, 2, none⟩ = some (.bool true) := h0.cell 1 2 rfl rfl
      have n1 := World.new_ne u _ k1
      have n2 := World.new_ne u _ k2
      have H0 := Lib.hid h0
      clear h0
      go_region_held3 (fun w' => w'.cell? ⟨gs, 1, none⟩ = some (I t) ∧ w'.cell? ⟨gs, 2, none⟩ = some (.bool true)) (go_keep)
        (first | (go_at_call 66; refine (limit_is HC.out _).mono ?_; rintro e w' ⟨rfl, rfl⟩))
      all_goals
        clear k1 k2 n1 n2
        first
          | (refine (show Exit.then _ _ Exit.normal _ (World.drew (World.alloc (World.alloc u (.cells #[I 0, I 0, .bool true] 61)) (.cells #[I 0, I 0, .bool true] 61))) from ?_)
             have ha := ((H0.out.alloc #[I 0, I 0, .bool true] 61).alloc #[I 0, I 0, .bool true] 61).drew
             rw [show (u.alloc (.cells #[I 0, I 0, .bool true] 61)).heap.size = u.heap.size + 1 by simp] at ha
             generalize World.drew (World.alloc (World.alloc u (.cells #[I 0, I 0, .bool true] 61)) (.cells #[I 0, I 0, .bool true] 61)) = v at ha ⊢
             generalize hgb : u.heap.size + 1 = gb at ha ⊢
             generalize u.heap.size = ga at ha ⊢
             clear hgb
             have HA := Lib.hid ha
             clear ha H0)
          | (refine (show Exit.then _ _ Exit.normal _ (World.drew (World.alloc (World.alloc u (.cells #[I 0, I 0, .bool true] 61)) (.cells #[I 0, I 0, .bool true] 61))) from ?_)
             have ha := ((H0.out.alloc #[I 0, I 0, .bool true] 61).alloc #[I 0, I 0, .bool true] 61).drew.swap
             rw [show (u.alloc (.cells #[I 0, I 0, .bool true] 61)).heap.size = u.heap.size + 1 by simp] at ha
             generalize World.drew (World.alloc (World.alloc u (.cells #[I 0, I 0, .bool true] 61)) (.cells #[I 0, I 0, .bool true] 61)) = v at ha ⊢
             generalize hga : u.heap.size + 1 = ga at ha ⊢
             generalize u.heap.size = gb at ha ⊢
             clear hga
             have HA := Lib.hid ha
             clear ha H0)
        have k0_0 : v.cell? ⟨gb, 0, none⟩ = some (I 0) := HA.out.cell 0 0 rfl rfl
        have k0_1 : v.cell? ⟨gb, 1, none⟩ = some (I 0) := HA.out.cell 0 1 rfl rfl
        have k0_2 : v.cell? ⟨gb, 2, none⟩ = some (Value.bool true) := HA.out.cell 0 2 rfl rfl
        have k1_0 : v.cell? ⟨ga, 0, none⟩ = some (I 0) := HA.out.cell 1 0 rfl rfl
        have k1_1 : v.cell? ⟨ga, 1, none⟩ = some (I 0) := HA.out.cell 1 1 rfl rfl
        have k1_2 : v.cell? ⟨ga, 2, none⟩ = some (Value.bool true) := HA.out.cell 1 2 rfl rfl
        go_wp2_with (refine wpList_store_row rfl 61 _ _ rfl gz #[I 0, I 0, Value.bool false] rfl rfl 61 _ (HA.out.at 2 rfl) infoT rfl (by simp [Value.oneCell']) ?_)
        have hput := HA.out.put 2 rfl #[I 0, I 0, Value.bool false]
        simp only [List.set_cons_succ, List.set_cons_zero] at hput
        generalize World.setRow _ gz _ = v2 at hput ⊢
        have HE := Lib.hid hput
        clear hput
        go_wp2_with fail
        (try simp only [Exit.inBlock, Exit.then])
        refine bodyPost_ret (v := .agg #[I 0, I 0, Value.bool false]) ?_ rfl ⟨rfl, HE.out.bel⟩
        exact results_cell_row rfl _ _ gz 61 _ (0, 0) _ rfl (HE.out.at 2 rfl) Try.underlying61 rfl infoT
    · have HE0 : Hid (fd c true = ⟨0, c - 1, true⟩) := Lib.hid (by unfold fd; rw [if_pos ⟨rfl, e0⟩])
      go_enter Try.func67, Try.ntmps67
      go_upto_region 1 with fail
      generalize World.alloc (World.alloc w _) _ = u at h0 ⊢
      generalize hgz : w.heap.size + 1 = gz at h0 ⊢
      generalize w.heap.size = gs at h0 ⊢
      clear hgz
      have k1 : u.cell? ⟨gs, 1, none⟩ = some (I t) := h0.cell 1 1 rfl rfl
      have k2 : u.cell? ⟨gs, 2, none⟩ = some (.bool true) := h0.cell 1 2 rfl rfl
      have n1 := World.new_ne u _ k1
      have n2 := World.new_ne u _ k2
      have H0 := Lib.hid h0
      clear h0
      go_region_held3 (fun w' => w'.cell? ⟨gs, 1, none⟩ = some (I t) ∧ w'.cell? ⟨gs, 2, none⟩ = some (.bool true)) (go_keep)
        (first | (go_at_call 66; refine (limit_is HC.out _).mono ?_; rintro e w' ⟨rfl, rfl⟩))
      all_goals
        clear k1 k2 n1 n2
        first
          | (refine (show Exit.then _ _ Exit.normal _ (World.drew (World.alloc (World.alloc u (.cells #[I 0, I c, .bool true] 61)) (.cells #[I 0, I 0, .bool true] 61))) from ?_)
             have ha := ((H0.out.alloc #[I 0, I c, .bool true] 61).alloc #[I 0, I 0, .bool true] 61).drew
             rw [show (u.alloc (.cells #[I 0, I c, .bool true] 61)).heap.size = u.heap.size + 1 by simp] at ha
             generalize World.drew (World.alloc (World.alloc u (.cells #[I 0, I c, .bool true] 61)) (.cells #[I 0, I 0, .bool true] 61)) = v at ha ⊢
             generalize hgb : u.heap.size + 1 = gb at ha ⊢
             generalize u.heap.size = ga at ha ⊢
             clear hgb
             have HA := Lib.hid ha
             clear ha H0)
          | (refine (show Exit.then _ _ Exit.normal _ (World.drew (World.alloc (World.alloc u (.cells #[I 0, I 0, .bool true] 61)) (.cells #[I 0, I c, .bool true] 61))) from ?_)
             have ha := ((H0.out.alloc #[I 0, I 0, .bool true] 61).alloc #[I 0, I c, .bool true] 61).drew.swap
             rw [show (u.alloc (.cells #[I 0, I 0, .bool true] 61)).heap.size = u.heap.size + 1 by simp] at ha
             generalize World.drew (World.alloc (World.alloc u (.cells #[I 0, I 0, .bool true] 61)) (.cells #[I 0, I c, .bool true] 61)) = v at ha ⊢
             generalize hga : u.heap.size + 1 = ga at ha ⊢
             generalize u.heap.size = gb at ha ⊢
             clear hga
             have HA := Lib.hid ha
             clear ha H0)
        have k0_0 : v.cell? ⟨gb, 0, none⟩ = some (I 0) := HA.out.cell 0 0 rfl rfl
        have k0_1 : v.cell? ⟨gb, 1, none⟩ = some (I 0) := HA.out.cell 0 1 rfl rfl
        have k0_2 : v.cell? ⟨gb, 2, none⟩ = some (Value.bool true) := HA.out.cell 0 2 rfl rfl
        have k1_0 : v.cell? ⟨ga, 0, none⟩ = some (I 0) := HA.out.cell 1 0 rfl rfl
        have k1_1 : v.cell? ⟨ga, 1, none⟩ = some (I c) := HA.out.cell 1 1 rfl rfl
        have k1_2 : v.cell? ⟨ga, 2, none⟩ = some (Value.bool true) := HA.out.cell 1 2 rfl rfl
        have f1_1 : v.frozen? ⟨ga, 1, none⟩ = false := HA.out.frozen 1 1 rfl
        go_upto_region 5 with fail
        have hput := HA.out.set 1 1 rfl (I (c - 1))
        simp only [List.set_cons_succ, List.set_cons_zero] at hput
        generalize World.setCell _ _ _ = v2 at hput ⊢
        have HB := Lib.hid hput
        clear hput k0_0 k0_1 k0_2 k1_0 k1_1 k1_2 f1_1
        have k1_0 : v2.cell? ⟨ga, 0, none⟩ = some (I 0) := HB.out.cell 1 0 rfl rfl
        have k1_1 : v2.cell? ⟨ga, 1, none⟩ = some (I (c - 1)) := HB.out.cell 1 1 rfl rfl
        have k1_2 : v2.cell? ⟨ga, 2, none⟩ = some (Value.bool true) := HB.out.cell 1 2 rfl rfl
        go_wp2_with (refine wpList_store_row rfl 61 _ _ rfl gz #[I 0, I (c - 1), Value.bool true] rfl rfl 61 _ (HB.out.at 2 rfl) infoT rfl (by simp [Value.oneCell']) ?_)
        have hput := HB.out.put 2 rfl #[I 0, I (c - 1), Value.bool true]
        simp only [List.set_cons_succ, List.set_cons_zero] at hput
        generalize World.setRow _ gz _ = v3 at hput ⊢
        have HE := Lib.hid hput
        clear hput
        go_wp2_with fail
        (try simp only [Exit.inBlock, Exit.then])
        refine bodyPost_ret (v := .agg #[I 0, I (c - 1), Value.bool true]) ?_ rfl ⟨by rw [HE0.out]; rfl, HE.out.bel⟩
        exact results_cell_row rfl _ _ gz 61 _ (0, 0) _ rfl (HE.out.at 2 rfl) Try.underlying61 rfl infoT

theorem fd_held {c : Int} {o : Bool} : ∃ ft fo, fd c o = ⟨0, ft, fo⟩ := by unfold fd; split <;> exact ⟨_, _, rfl⟩
theorem fade_as {h t c ft : Int} {o fo : Bool} (hc : ct t 0 9999 = c) (hf : fd c o = ⟨0, ft, fo⟩) (w : World) : Calls Try.prog 67 #[.agg #[I h, I t, .bool o]] w fun e w' => e = .returned (.agg #[I 0, I ft, .bool fo]) ∧ Below w.heap.size w w' := by
  have := fade_is (h := h) hc (o := o) w
  rw [hf] at this
  exact this
theorem tmr_hi {d e h t hh : Int} {o i : Bool} (h1 : (if i = true then more h else 0) = hh) (h2 : ct d 0 9999 < hh) : tmr d e ⟨h, t, o⟩ i = ⟨hh, ct e 0 9999, true⟩ := by
  show (if ct d 0 9999 < (if i = true then more h else 0) then _ else _) = _
  rw [h1, if_pos h2]
theorem tmr_lo {d e h t hh ft : Int} {o i fo : Bool} (h1 : (if i = true then more h else 0) = hh) (h2 : ¬ ct d 0 9999 < hh) (hf : fd (ct t 0 9999) o = ⟨0, ft, fo⟩) : tmr d e ⟨h, t, o⟩ i = ⟨hh, ft, fo⟩ := by
  show (if ct d 0 9999 < (if i = true then more h else 0) then _ else _) = _
  rw [h1, if_neg h2]
  unfold fd at hf
  show (if o = true ∧ 0 < ct t 0 9999 then _ else _) = _
  split at hf <;> rename_i hx
  · rw [if_pos hx]; injection hf with a b c; rw [← b, ← c]
  · rw [if_neg hx]; injection hf with a b c; rw [← b, ← c]
theorem oneMore_is {n m : Int} (h : more n = m) (w : World) : Calls Try.prog 65 #[.int .i64 n] w fun e w' => e = .returned (.int .i64 m) ∧ w = w' := by rw [← h]; exact oneMore_any n w
theorem rmore_is {n m : Int} (h : more n = m) (w : World) : Calls Try.prog 49 #[.int .i64 n] w fun e w' => e = .returned (.int .i64 m) ∧ w = w' := by rw [← h]; exact Cnt.rmore_any n w
theorem rcut_is {n m : Int} (h : ct n 0 9999 = m) (w : World) : Calls Try.prog 50 #[.int .i64 n, .int .i64 0, .int .i64 9999] w fun e w' => e = .returned (.int .i64 m) ∧ w = w' := by rw [← h]; exact Cnt.rcut_any n 0 9999 w
end Go.Proofs.Ytbmcendlpeaaeaa.Dly
