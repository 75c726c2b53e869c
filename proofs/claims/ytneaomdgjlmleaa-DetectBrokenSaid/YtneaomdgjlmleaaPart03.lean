/- 9 texts in one file, in build order. -/
import Derived.Test.YtneaomdgjlmleaaPart02
import Derived.Test.YtneaomdgjlmleaaRows
import Derived.Test.YtneaomdgjlmleaaPart01
import Derived.StillTailTactics
import Derived.Deep.Cut
import Derived.Laws.Tables
import Derived.Laws.CopyOwn
import Derived.Laws.Rows
import Derived.Deep.RegionHeld3
import Derived.StillTail
import Derived.BigQuiet
import Derived.LoopTactic
import Derived.Laws.BitsLemmas
import Derived.OwnWalk
set_option linter.unusedVariables false
set_option linter.unusedSimpArgs false
set_option linter.unusedSectionVars false
set_option maxHeartbeats 8000000
set_option maxRecDepth 100000
namespace Go.Proofs.Ytneaomdgjlmleaa
namespace Dly
open Go.ChangeShapes Go.WideShapes Go.ChangeAt Go.RowKit
open Tab Flat TabArg
open Cnt (more ct)
theorem step_is {d e h t h' t' : Int} {o i o' : Bool} (hs : tmr d e ⟨h, t, o⟩ i = ⟨h', t', o'⟩) (w : World) : Calls Try.prog 76 #[.int .i64 d, .int .i64 e, .agg #[I h, I t, .bool o], .bool i] w fun e w' => e = .returned (.agg #[I h', I t', .bool o']) ∧ Below w.heap.size w w' := by
  obtain ⟨cd, hd⟩ : ∃ c, ct d 0 9999 = c := ⟨_, rfl⟩
  obtain ⟨ce, he⟩ : ∃ c, ct e 0 9999 = c := ⟨_, rfl⟩
  obtain ⟨c, hc⟩ : ∃ c, ct t 0 9999 = c := ⟨_, rfl⟩
  obtain ⟨mh, hm⟩ : ∃ c, more h = c := ⟨_, rfl⟩
  obtain ⟨ft, fo, hf⟩ := @fd_held c o
  have d0 : 0 ≤ cd := by rw [← hd]; exact Cnt.ct_lo (by decide)
  have c0 : 0 ≤ c := by rw [← hc]; exact Cnt.ct_lo (by decide)
  have c1 : c ≤ 9999 := by rw [← hc]; exact Cnt.ct_hi (by decide)
  have m0 : 1 ≤ mh := by rw [← hm]; exact Cnt.more_lo h
  have HD := Lib.hid hd
  have HE := Lib.hid he
  have HC := Lib.hid hc
  have HM := Lib.hid hm
  have HF := Lib.hid hf
  have HS := Lib.hid hs
  clear hd he hc hm hf hs
  have h0 := ((Blk.Bks.nil w).alloc #[I h, I t, .bool o] 73).alloc #[I 0, I 0, .bool false] 73
  rw [show (w.alloc (.cells #[I h, I t, .bool o] 73)).heap.size = w.heap.size + 1 by simp] at h0
  cases i
  · have hx := tmr_lo (d := d) (e := e) (h := h) (t := t) (hh := 0) (o := o) (i := false) rfl (by rw [HD.out]; omega) (by rw [HC.out]; exact HF.out)
    rw [HS.out] at hx
    injection hx with e1 e2 e3
    have HR : Hid (Ending.returned (Value.agg #[I 0, I ft, .bool fo]) = Ending.returned (Value.agg #[I h', I t', .bool o'])) := Lib.hid (by rw [← e1, ← e2, ← e3])
    clear e1 e2 e3 HS
    go_enter Try.func76, Try.ntmps76
    go_upto_region 1 with fail
    generalize World.alloc (World.alloc w _) _ = u at h0 ⊢
    generalize hgz : w.heap.size + 1 = gz at h0 ⊢
    generalize w.heap.size = gs at h0 ⊢
    clear hgz
    have H0 := Lib.hid h0
    clear h0
    have k1_0 : u.cell? ⟨gs, 0, none⟩ = some (I h) := H0.out.cell 1 0 rfl rfl
    have k1_1 : u.cell? ⟨gs, 1, none⟩ = some (I t) := H0.out.cell 1 1 rfl rfl
    have k1_2 : u.cell? ⟨gs, 2, none⟩ = some (Value.bool o) := H0.out.cell 1 2 rfl rfl
    go_upto_region 6 with (first | (go_at_call 95; with_reducible refine (limit_is HD.out _).mono ?_; rintro e w' ⟨rfl, rfl⟩) | (go_at_call 95; with_reducible refine (limit_is HE.out _).mono ?_; rintro e w' ⟨rfl, rfl⟩) | (go_at_call 94; with_reducible refine (oneMore_is HM.out _).mono ?_; rintro e w' ⟨rfl, rfl⟩))
    go_wp2_with fail
    refine (fade_as HC.out HF.out _).mono ?_
    rintro e u1 ⟨rfl, b1⟩
    clear k1_0 k1_1 k1_2
    go_upto_region 7 with fail
    have hn := (H0.out.step b1).alloc #[I 0, I ft, .bool fo] 73
    generalize World.alloc u1 _ = u2 at hn ⊢
    generalize u1.heap.size = gn at hn ⊢
    have HN := Lib.hid hn
    clear hn H0 b1
    have k0_0 : u2.cell? ⟨gn, 0, none⟩ = some (I 0) := HN.out.cell 0 0 rfl rfl
    have k0_1 : u2.cell? ⟨gn, 1, none⟩ = some (I ft) := HN.out.cell 0 1 rfl rfl
    have k0_2 : u2.cell? ⟨gn, 2, none⟩ = some (Value.bool fo) := HN.out.cell 0 2 rfl rfl
    have f0_0 : u2.frozen? ⟨gn, 0, none⟩ = false := HN.out.frozen 0 0 rfl
    go_upto_region 8 with fail
    have hput := HN.out.set 0 0 rfl (I 0)
    simp only [List.set_cons_succ, List.set_cons_zero] at hput
    generalize World.setCell _ _ _ = u3 at hput ⊢
    have HB := Lib.hid hput
    clear hput k0_0 k0_1 k0_2 f0_0
    have k0_0 : u3.cell? ⟨gn, 0, none⟩ = some (I 0) := HB.out.cell 0 0 rfl rfl
    have k0_1 : u3.cell? ⟨gn, 1, none⟩ = some (I ft) := HB.out.cell 0 1 rfl rfl
    have k0_2 : u3.cell? ⟨gn, 2, none⟩ = some (Value.bool fo) := HB.out.cell 0 2 rfl rfl
    go_wp2_with (refine wpList_store_row rfl 73 _ _ rfl gz #[I 0, I ft, Value.bool fo] rfl rfl 73 _ (HB.out.at 1 rfl) infoT rfl (by simp [Value.oneCell']) ?_)
    have hput := HB.out.put 1 rfl #[I 0, I ft, Value.bool fo]
    simp only [List.set_cons_succ, List.set_cons_zero] at hput
    generalize World.setRow _ gz _ = v3 at hput ⊢
    have HG := Lib.hid hput
    clear hput
    go_wp2_with fail
    (try simp only [Exit.inBlock, Exit.then])
    refine bodyPost_ret (v := .agg #[I 0, I ft, Value.bool fo]) ?_ rfl ⟨HR.out, HG.out.bel⟩
    exact results_cell_row rfl _ _ gz 73 _ (0, 0) _ rfl (HG.out.at 1 rfl) Try.underlying73 rfl infoT
  · by_cases ha : cd < mh
    · have hx := tmr_hi (d := d) (e := e) (h := h) (t := t) (hh := mh) (o := o) (i := true) (by rw [if_pos rfl]; exact HM.out) (by rw [HD.out]; omega)
      rw [HE.out, HS.out] at hx
      injection hx with e1 e2 e3
      have HR : Hid (Ending.returned (Value.agg #[I mh, I ce, .bool true]) = Ending.returned (Value.agg #[I h', I t', .bool o'])) := Lib.hid (by rw [← e1, ← e2, ← e3])
      clear e1 e2 e3 HS HF
      go_enter Try.func76, Try.ntmps76
      go_upto_region 1 with fail
      generalize World.alloc (World.alloc w _) _ = u at h0 ⊢
      generalize hgz : w.heap.size + 1 = gz at h0 ⊢
      generalize w.heap.size = gs at h0 ⊢
      clear hgz
      have H0 := Lib.hid h0
      clear h0
      have k1_0 : u.cell? ⟨gs, 0, none⟩ = some (I h) := H0.out.cell 1 0 rfl rfl
      have k1_1 : u.cell? ⟨gs, 1, none⟩ = some (I t) := H0.out.cell 1 1 rfl rfl
      have k1_2 : u.cell? ⟨gs, 2, none⟩ = some (Value.bool o) := H0.out.cell 1 2 rfl rfl
      go_wp2_with (first | (go_at_call 95; with_reducible refine (limit_is HD.out _).mono ?_; rintro e w' ⟨rfl, rfl⟩) | (go_at_call 95; with_reducible refine (limit_is HE.out _).mono ?_; rintro e w' ⟨rfl, rfl⟩) | (go_at_call 94; with_reducible refine (oneMore_is HM.out _).mono ?_; rintro e w' ⟨rfl, rfl⟩) | (refine wpList_store_row rfl 73 _ _ rfl gz #[I mh, I ce, Value.bool true] rfl rfl 73 _ (H0.out.at 0 rfl) infoT rfl (by simp [Value.oneCell']) ?_))
      have hput := H0.out.put 0 rfl #[I mh, I ce, Value.bool true]
      simp only [List.set_cons_succ, List.set_cons_zero] at hput
      generalize World.setRow _ gz _ = v2 at hput ⊢
      have HG := Lib.hid hput
      clear hput
      go_wp2_with fail
      (try simp only [Exit.inBlock, Exit.then])
      refine bodyPost_ret (v := .agg #[I mh, I ce, Value.bool true]) ?_ rfl ⟨HR.out, HG.out.bel⟩
      exact results_cell_row rfl _ _ gz 73 _ (0, 0) _ rfl (HG.out.at 0 rfl) Try.underlying73 rfl infoT
    · have hx := tmr_lo (d := d) (e := e) (h := h) (t := t) (hh := mh) (o := o) (i := true) (by rw [if_pos rfl]; exact HM.out) (by rw [HD.out]; omega) (by rw [HC.out]; exact HF.out)
      rw [HS.out] at hx
      injection hx with e1 e2 e3
      have HR : Hid (Ending.returned (Value.agg #[I mh, I ft, .bool fo]) = Ending.returned (Value.agg #[I h', I t', .bool o'])) := Lib.hid (by rw [← e1, ← e2, ← e3])
      clear e1 e2 e3 HS
      go_enter Try.func76, Try.ntmps76
      go_upto_region 1 with fail
      generalize World.alloc (World.alloc w _) _ = u at h0 ⊢
      generalize hgz : w.heap.size + 1 = gz at h0 ⊢
      generalize w.heap.size = gs at h0 ⊢
      clear hgz
      have H0 := Lib.hid h0
      clear h0
      have k1_0 : u.cell? ⟨gs, 0, none⟩ = some (I h) := H0.out.cell 1 0 rfl rfl
      have k1_1 : u.cell? ⟨gs, 1, none⟩ = some (I t) := H0.out.cell 1 1 rfl rfl
      have k1_2 : u.cell? ⟨gs, 2, none⟩ = some (Value.bool o) := H0.out.cell 1 2 rfl rfl
      go_upto_region 6 with (first | (go_at_call 95; with_reducible refine (limit_is HD.out _).mono ?_; rintro e w' ⟨rfl, rfl⟩) | (go_at_call 95; with_reducible refine (limit_is HE.out _).mono ?_; rintro e w' ⟨rfl, rfl⟩) | (go_at_call 94; with_reducible refine (oneMore_is HM.out _).mono ?_; rintro e w' ⟨rfl, rfl⟩))
      go_wp2_with fail
      refine (fade_as HC.out HF.out _).mono ?_
      rintro e u1 ⟨rfl, b1⟩
      clear k1_0 k1_1 k1_2
      go_upto_region 7 with fail
      have hn := (H0.out.step b1).alloc #[I 0, I ft, .bool fo] 73
      generalize World.alloc u1 _ = u2 at hn ⊢
      generalize u1.heap.size = gn at hn ⊢
      have HN := Lib.hid hn
      clear hn H0 b1
      have k0_0 : u2.cell? ⟨gn, 0, none⟩ = some (I 0) := HN.out.cell 0 0 rfl rfl
      have k0_1 : u2.cell? ⟨gn, 1, none⟩ = some (I ft) := HN.out.cell 0 1 rfl rfl
      have k0_2 : u2.cell? ⟨gn, 2, none⟩ = some (Value.bool fo) := HN.out.cell 0 2 rfl rfl
      have f0_0 : u2.frozen? ⟨gn, 0, none⟩ = false := HN.out.frozen 0 0 rfl
      go_upto_region 8 with fail
      have hput := HN.out.set 0 0 rfl (I mh)
      simp only [List.set_cons_succ, List.set_cons_zero] at hput
      generalize World.setCell _ _ _ = u3 at hput ⊢
      have HB := Lib.hid hput
      clear hput k0_0 k0_1 k0_2 f0_0
      have k0_0 : u3.cell? ⟨gn, 0, none⟩ = some (I mh) := HB.out.cell 0 0 rfl rfl
      have k0_1 : u3.cell? ⟨gn, 1, none⟩ = some (I ft) := HB.out.cell 0 1 rfl rfl
      have k0_2 : u3.cell? ⟨gn, 2, none⟩ = some (Value.bool fo) := HB.out.cell 0 2 rfl rfl
      go_wp2_with (refine wpList_store_row rfl 73 _ _ rfl gz #[I mh, I ft, Value.bool fo] rfl rfl 73 _ (HB.out.at 1 rfl) infoT rfl (by simp [Value.oneCell']) ?_)
      have hput := HB.out.put 1 rfl #[I mh, I ft, Value.bool fo]
      simp only [List.set_cons_succ, List.set_cons_zero] at hput
      generalize World.setRow _ gz _ = v3 at hput ⊢
      have HG := Lib.hid hput
      clear hput
      go_wp2_with fail
      (try simp only [Exit.inBlock, Exit.then])
      refine bodyPost_ret (v := .agg #[I mh, I ft, Value.bool fo]) ?_ rfl ⟨HR.out, HG.out.bel⟩
      exact results_cell_row rfl _ _ gz 73 _ (0, 0) _ rfl (HG.out.at 1 rfl) Try.underlying73 rfl infoT
theorem rstep_is {d e h t h' t' : Int} {o i o' : Bool} (hs : tmr d e ⟨h, t, o⟩ i = ⟨h', t', o'⟩) (w : World) : Calls Try.prog 57 #[.int .i64 d, .int .i64 e, .agg #[I h, I t, .bool o], .bool i] w fun e w' => e = .returned (.agg #[I h', I t', .bool o']) ∧ Below w.heap.size w w' := by
  obtain ⟨cd, hd⟩ : ∃ c, ct d 0 9999 = c := ⟨_, rfl⟩
  obtain ⟨ce, he⟩ : ∃ c, ct e 0 9999 = c := ⟨_, rfl⟩
  obtain ⟨c, hc⟩ : ∃ c, ct t 0 9999 = c := ⟨_, rfl⟩
  obtain ⟨mh, hm⟩ : ∃ c, more h = c := ⟨_, rfl⟩
  obtain ⟨ft, fo, hf⟩ := @fd_held c o
  have d0 : 0 ≤ cd := by rw [← hd]; exact Cnt.ct_lo (by decide)
  have c0 : 0 ≤ c := by rw [← hc]; exact Cnt.ct_lo (by decide)
  have c1 : c ≤ 9999 := by rw [← hc]; exact Cnt.ct_hi (by decide)
  have m0 : 1 ≤ mh := by rw [← hm]; exact Cnt.more_lo h
  have HD := Lib.hid hd
  have HE := Lib.hid he
  have HC := Lib.hid hc
  have HM := Lib.hid hm
  have HF := Lib.hid hf
  have HS := Lib.hid hs
  clear hd he hc hm hf hs
  have h0 := ((Blk.Bks.nil w).alloc #[I h, I t, .bool o] 73).alloc #[I 0, I 0, .bool false] 73
  rw [show (w.alloc (.cells #[I h, I t, .bool o] 73)).heap.size = w.heap.size + 1 by simp] at h0
  cases i
  · have hx := tmr_lo (d := d) (e := e) (h := h) (t := t) (hh := 0) (o := o) (i := false) rfl (by rw [HD.out]; omega) (by rw [HC.out]; exact HF.out)
    rw [HS.out] at hx
    injection hx with e1 e2 e3
    have HR : Hid (Ending.returned (Value.agg #[I 0, I ft, .bool fo]) = Ending.returned (Value.agg #[I h', I t', .bool o'])) := Lib.hid (by rw [← e1, ← e2, ← e3])
    clear e1 e2 e3 HS
    cases o
    · obtain ⟨rfl, rfl⟩ : ft = 0 ∧ fo = false := by have := HF.out; unfold fd at this; rw [if_neg (by simp)] at this; injection this with a b c; exact ⟨b.symm, c.symm⟩
      go_enter Try.func57, Try.ntmps57
      go_upto_region 1 with fail
      generalize World.alloc (World.alloc w _) _ = u at h0 ⊢
      generalize hgz : w.heap.size + 1 = gz at h0 ⊢
      generalize w.heap.size = gs at h0 ⊢
      clear hgz
      have H0 := Lib.hid h0
      clear h0
      have k1_0 : u.cell? ⟨gs, 0, none⟩ = some (I h) := H0.out.cell 1 0 rfl rfl
      have k1_1 : u.cell? ⟨gs, 1, none⟩ = some (I t) := H0.out.cell 1 1 rfl rfl
      have k1_2 : u.cell? ⟨gs, 2, none⟩ = some (Value.bool false) := H0.out.cell 1 2 rfl rfl
      go_wp2_with (first | (go_at_call 80; with_reducible refine (rcut_is HD.out _).mono ?_; rintro e w' ⟨rfl, rfl⟩) | (go_at_call 80; with_reducible refine (rcut_is HE.out _).mono ?_; rintro e w' ⟨rfl, rfl⟩) | (go_at_call 80; with_reducible refine (rcut_is HC.out _).mono ?_; rintro e w' ⟨rfl, rfl⟩) | (go_at_call 79; with_reducible refine (rmore_is HM.out _).mono ?_; rintro e w' ⟨rfl, rfl⟩) | (refine wpList_store_row rfl 73 _ _ rfl gz #[I 0, I 0, Value.bool false] rfl rfl 73 _ (H0.out.at 0 rfl) infoT rfl (by simp [Value.oneCell']) ?_))
      have hput := H0.out.put 0 rfl #[I 0, I 0, Value.bool false]
      simp only [List.set_cons_succ, List.set_cons_zero] at hput
      generalize World.setRow _ gz _ = v2 at hput ⊢
      have HG := Lib.hid hput
      clear hput
      go_wp2_with fail
      (try simp only [Exit.inBlock, Exit.then])
      refine bodyPost_ret (v := .agg #[I 0, I 0, Value.bool false]) ?_ rfl ⟨HR.out, HG.out.bel⟩
      exact results_cell_row rfl _ _ gz 73 _ (0, 0) _ rfl (HG.out.at 0 rfl) Try.underlying73 rfl infoT
    · by_cases hq : 0 < c
      · obtain ⟨rfl, rfl⟩ : ft = (c - 1) ∧ fo = true := by have := HF.out; unfold fd at this; rw [if_pos ⟨rfl, hq⟩] at this; injection this with a b c; exact ⟨b.symm, c.symm⟩
        go_enter Try.func57, Try.ntmps57
        go_upto_region 1 with fail
        generalize World.alloc (World.alloc w _) _ = u at h0 ⊢
        generalize hgz : w.heap.size + 1 = gz at h0 ⊢
        generalize w.heap.size = gs at h0 ⊢
        clear hgz
        have H0 := Lib.hid h0
        clear h0
        have k1_0 : u.cell? ⟨gs, 0, none⟩ = some (I h) := H0.out.cell 1 0 rfl rfl
        have k1_1 : u.cell? ⟨gs, 1, none⟩ = some (I t) := H0.out.cell 1 1 rfl rfl
        have k1_2 : u.cell? ⟨gs, 2, none⟩ = some (Value.bool true) := H0.out.cell 1 2 rfl rfl
        go_wp2_with (first | (go_at_call 80; with_reducible refine (rcut_is HD.out _).mono ?_; rintro e w' ⟨rfl, rfl⟩) | (go_at_call 80; with_reducible refine (rcut_is HE.out _).mono ?_; rintro e w' ⟨rfl, rfl⟩) | (go_at_call 80; with_reducible refine (rcut_is HC.out _).mono ?_; rintro e w' ⟨rfl, rfl⟩) | (go_at_call 79; with_reducible refine (rmore_is HM.out _).mono ?_; rintro e w' ⟨rfl, rfl⟩) | (refine wpList_store_row rfl 73 _ _ rfl gz #[I 0, I (c - 1), Value.bool true] rfl rfl 73 _ (H0.out.at 0 rfl) infoT rfl (by simp [Value.oneCell']) ?_))
        have hput := H0.out.put 0 rfl #[I 0, I (c - 1), Value.bool true]
        simp only [List.set_cons_succ, List.set_cons_zero] at hput
        generalize World.setRow _ gz _ = v2 at hput ⊢
        have HG := Lib.hid hput
        clear hput
        go_wp2_with fail
        (try simp only [Exit.inBlock, Exit.then])
        refine bodyPost_ret (v := .agg #[I 0, I (c - 1), Value.bool true]) ?_ rfl ⟨HR.out, HG.out.bel⟩
        exact results_cell_row rfl _ _ gz 73 _ (0, 0) _ rfl (HG.out.at 0 rfl) Try.underlying73 rfl infoT
      · obtain ⟨rfl, rfl⟩ : ft = 0 ∧ fo = false := by have := HF.out; unfold fd at this; rw [if_neg (by simp; omega)] at this; injection this with a b c; exact ⟨b.symm, c.symm⟩
        go_enter Try.func57, Try.ntmps57
        go_upto_region 1 with fail
        generalize World.alloc (World.alloc w _) _ = u at h0 ⊢
        generalize hgz : w.heap.size + 1 = gz at h0 ⊢
        generalize w.heap.size = gs at h0 ⊢
        clear hgz
        have H0 := Lib.hid h0
        clear h0
        have k1_0 : u.cell? ⟨gs, 0, none⟩ = some (I h) := H0.out.cell 1 0 rfl rfl
        have k1_1 : u.cell? ⟨gs, 1, none⟩ = some (I t) := H0.out.cell 1 1 rfl rfl
        have k1_2 : u.cell? ⟨gs, 2, none⟩ = some (Value.bool true) := H0.out.cell 1 2 rfl rfl
        go_wp2_with (first | (go_at_call 80; with_reducible refine (rcut_is HD.out _).mono ?_; rintro e w' ⟨rfl, rfl⟩) | (go_at_call 80; with_reducible refine (rcut_is HE.out _).mono ?_; rintro e w' ⟨rfl, rfl⟩) | (go_at_call 80; with_reducible refine (rcut_is HC.out _).mono ?_; rintro e w' ⟨rfl, rfl⟩) | (go_at_call 79; with_reducible refine (rmore_is HM.out _).mono ?_; rintro e w' ⟨rfl, rfl⟩) | (refine wpList_store_row rfl 73 _ _ rfl gz #[I 0, I 0, Value.bool false] rfl rfl 73 _ (H0.out.at 0 rfl) infoT rfl (by simp [Value.oneCell']) ?_))
        have hput := H0.out.put 0 rfl #[I 0, I 0, Value.bool false]
        simp only [List.set_cons_succ, List.set_cons_zero] at hput
        generalize World.setRow _ gz _ = v2 at hput ⊢
        have HG := Lib.hid hput
        clear hput
        go_wp2_with fail
        (try simp only [Exit.inBlock, Exit.then])
        refine bodyPost_ret (v := .agg #[I 0, I 0, Value.bool false]) ?_ rfl ⟨HR.out, HG.out.bel⟩
        exact results_cell_row rfl _ _ gz 73 _ (0, 0) _ rfl (HG.out.at 0 rfl) Try.underlying73 rfl infoT
  · by_cases ha : cd < mh
    · have hx := tmr_hi (d := d) (e := e) (h := h) (t := t) (hh := mh) (o := o) (i := true) (by rw [if_pos rfl]; exact HM.out) (by rw [HD.out]; omega)
      rw [HE.out, HS.out] at hx
      injection hx with e1 e2 e3
      have HR : Hid (Ending.returned (Value.agg #[I mh, I ce, .bool true]) = Ending.returned (Value.agg #[I h', I t', .bool o'])) := Lib.hid (by rw [← e1, ← e2, ← e3])
      clear e1 e2 e3 HS HF
      go_enter Try.func57, Try.ntmps57
      go_upto_region 1 with fail
      generalize World.alloc (World.alloc w _) _ = u at h0 ⊢
      generalize hgz : w.heap.size + 1 = gz at h0 ⊢
      generalize w.heap.size = gs at h0 ⊢
      clear hgz
      have H0 := Lib.hid h0
      clear h0
      have k1_0 : u.cell? ⟨gs, 0, none⟩ = some (I h) := H0.out.cell 1 0 rfl rfl
      have k1_1 : u.cell? ⟨gs, 1, none⟩ = some (I t) := H0.out.cell 1 1 rfl rfl
      have k1_2 : u.cell? ⟨gs, 2, none⟩ = some (Value.bool o) := H0.out.cell 1 2 rfl rfl
      go_wp2_with (first | (go_at_call 80; with_reducible refine (rcut_is HD.out _).mono ?_; rintro e w' ⟨rfl, rfl⟩) | (go_at_call 80; with_reducible refine (rcut_is HE.out _).mono ?_; rintro e w' ⟨rfl, rfl⟩) | (go_at_call 80; with_reducible refine (rcut_is HC.out _).mono ?_; rintro e w' ⟨rfl, rfl⟩) | (go_at_call 79; with_reducible refine (rmore_is HM.out _).mono ?_; rintro e w' ⟨rfl, rfl⟩) | (refine wpList_store_row rfl 73 _ _ rfl gz #[I mh, I ce, Value.bool true] rfl rfl 73 _ (H0.out.at 0 rfl) infoT rfl (by simp [Value.oneCell']) ?_))
      have hput := H0.out.put 0 rfl #[I mh, I ce, Value.bool true]
      simp only [List.set_cons_succ, List.set_cons_zero] at hput
      generalize World.setRow _ gz _ = v2 at hput ⊢
      have HG := Lib.hid hput
      clear hput
      go_wp2_with fail
      (try simp only [Exit.inBlock, Exit.then])
      refine bodyPost_ret (v := .agg #[I mh, I ce, Value.bool true]) ?_ rfl ⟨HR.out, HG.out.bel⟩
      exact results_cell_row rfl _ _ gz 73 _ (0, 0) _ rfl (HG.out.at 0 rfl) Try.underlying73 rfl infoT
    · have hx := tmr_lo (d := d) (e := e) (h := h) (t := t) (hh := mh) (o := o) (i := true) (by rw [if_pos rfl]; exact HM.out) (by rw [HD.out]; omega) (by rw [HC.out]; exact HF.out)
      rw [HS.out] at hx
      injection hx with e1 e2 e3
      have HR : Hid (Ending.returned (Value.agg #[I mh, I ft, .bool fo]) = Ending.returned (Value.agg #[I h', I t', .bool o'])) := Lib.hid (by rw [← e1, ← e2, ← e3])
      clear e1 e2 e3 HS
      cases o
      · obtain ⟨rfl, rfl⟩ : ft = 0 ∧ fo = false := by have := HF.out; unfold fd at this; rw [if_neg (by simp)] at this; injection this with a b c; exact ⟨b.symm, c.symm⟩
        go_enter Try.func57, Try.ntmps57
        go_upto_region 1 with fail
        generalize World.alloc (World.alloc w _) _ = u at h0 ⊢
        generalize hgz : w.heap.size + 1 = gz at h0 ⊢
        generalize w.heap.size = gs at h0 ⊢
        clear hgz
        have H0 := Lib.hid h0
        clear h0
        have k1_0 : u.cell? ⟨gs, 0, none⟩ = some (I h) := H0.out.cell 1 0 rfl rfl
        have k1_1 : u.cell? ⟨gs, 1, none⟩ = some (I t) := H0.out.cell 1 1 rfl rfl
        have k1_2 : u.cell? ⟨gs, 2, none⟩ = some (Value.bool false) := H0.out.cell 1 2 rfl rfl
        go_wp2_with (first | (go_at_call 80; with_reducible refine (rcut_is HD.out _).mono ?_; rintro e w' ⟨rfl, rfl⟩) | (go_at_call 80; with_reducible refine (rcut_is HE.out _).mono ?_; rintro e w' ⟨rfl, rfl⟩) | (go_at_call 80; with_reducible refine (rcut_is HC.out _).mono ?_; rintro e w' ⟨rfl, rfl⟩) | (go_at_call 79; with_reducible refine (rmore_is HM.out _).mono ?_; rintro e w' ⟨rfl, rfl⟩) | (refine wpList_store_row rfl 73 _ _ rfl gz #[I mh, I 0, Value.bool false] rfl rfl 73 _ (H0.out.at 0 rfl) infoT rfl (by simp [Value.oneCell']) ?_))
        have hput := H0.out.put 0 rfl #[I mh, I 0, Value.bool false]
        simp only [List.set_cons_succ, List.set_cons_zero] at hput
        generalize World.setRow _ gz _ = v2 at hput ⊢
        have HG := Lib.hid hput
        clear hput
        go_wp2_with fail
        (try simp only [Exit.inBlock, Exit.then])
        refine bodyPost_ret (v := .agg #[I mh, I 0, Value.bool false]) ?_ rfl ⟨HR.out, HG.out.bel⟩
        exact results_cell_row rfl _ _ gz 73 _ (0, 0) _ rfl (HG.out.at 0 rfl) Try.underlying73 rfl infoT
      · by_cases hq : 0 < c
        · obtain ⟨rfl, rfl⟩ : ft = (c - 1) ∧ fo = true := by have := HF.out; unfold fd at this; rw [if_pos ⟨rfl, hq⟩] at this; injection this with a b c; exact ⟨b.symm, c.symm⟩
          go_enter Try.func57, Try.ntmps57
          go_upto_region 1 with fail
          generalize World.alloc (World.alloc w _) _ = u at h0 ⊢
          generalize hgz : w.heap.size + 1 = gz at h0 ⊢
          generalize w.heap.size = gs at h0 ⊢
          clear hgz
          have H0 := Lib.hid h0
          clear h0
          have k1_0 : u.cell? ⟨gs, 0, none⟩ = some (I h) := H0.out.cell 1 0 rfl rfl
          have k1_1 : u.cell? ⟨gs, 1, none⟩ = some (I t) := H0.out.cell 1 1 rfl rfl
          have k1_2 : u.cell? ⟨gs, 2, none⟩ = some (Value.bool true) := H0.out.cell 1 2 rfl rfl
          go_wp2_with (first | (go_at_call 80; with_reducible refine (rcut_is HD.out _).mono ?_; rintro e w' ⟨rfl, rfl⟩) | (go_at_call 80; with_reducible refine (rcut_is HE.out _).mono ?_; rintro e w' ⟨rfl, rfl⟩) | (go_at_call 80; with_reducible refine (rcut_is HC.out _).mono ?_; rintro e w' ⟨rfl, rfl⟩) | (go_at_call 79; with_reducible refine (rmore_is HM.out _).mono ?_; rintro e w' ⟨rfl, rfl⟩) | (refine wpList_store_row rfl 73 _ _ rfl gz #[I mh, I (c - 1), Value.bool true] rfl rfl 73 _ (H0.out.at 0 rfl) infoT rfl (by simp [Value.oneCell']) ?_))
          have hput := H0.out.put 0 rfl #[I mh, I (c - 1), Value.bool true]
          simp only [List.set_cons_succ, List.set_cons_zero] at hput
          generalize World.setRow _ gz _ = v2 at hput ⊢
          have HG := Lib.hid hput
          clear hput
          go_wp2_with fail
          (try simp only [Exit.inBlock, Exit.then])
          refine bodyPost_ret (v := .agg #[I mh, I (c - 1), Value.bool true]) ?_ rfl ⟨HR.out, HG.out.bel⟩
          exact results_cell_row rfl _ _ gz 73 _ (0, 0) _ rfl (HG.out.at 0 rfl) Try.underlying73 rfl infoT
        · obtain ⟨rfl, rfl⟩ : ft = 0 ∧ fo = false := by have := HF.out; unfold fd at this; rw [if_neg (by simp; omega)] at this; injection this with a b c; exact ⟨b.symm, c.symm⟩
          go_enter Try.func57, Try.ntmps57
          go_upto_region 1 with fail
          generalize World.alloc (World.alloc w _) _ = u at h0 ⊢
          generalize hgz : w.heap.size + 1 = gz at h0 ⊢
          generalize w.heap.size = gs at h0 ⊢
          clear hgz
          have H0 := Lib.hid h0
          clear h0
          have k1_0 : u.cell? ⟨gs, 0, none⟩ = some (I h) := H0.out.cell 1 0 rfl rfl
          have k1_1 : u.cell? ⟨gs, 1, none⟩ = some (I t) := H0.out.cell 1 1 rfl rfl
          have k1_2 : u.cell? ⟨gs, 2, none⟩ = some (Value.bool true) := H0.out.cell 1 2 rfl rfl
          go_wp2_with (first | (go_at_call 80; with_reducible refine (rcut_is HD.out _).mono ?_; rintro e w' ⟨rfl, rfl⟩) | (go_at_call 80; with_reducible refine (rcut_is HE.out _).mono ?_; rintro e w' ⟨rfl, rfl⟩) | (go_at_call 80; with_reducible refine (rcut_is HC.out _).mono ?_; rintro e w' ⟨rfl, rfl⟩) | (go_at_call 79; with_reducible refine (rmore_is HM.out _).mono ?_; rintro e w' ⟨rfl, rfl⟩) | (refine wpList_store_row rfl 73 _ _ rfl gz #[I mh, I 0, Value.bool false] rfl rfl 73 _ (H0.out.at 0 rfl) infoT rfl (by simp [Value.oneCell']) ?_))
          have hput := H0.out.put 0 rfl #[I mh, I 0, Value.bool false]
          simp only [List.set_cons_succ, List.set_cons_zero] at hput
          generalize World.setRow _ gz _ = v2 at hput ⊢
          have HG := Lib.hid hput
          clear hput
          go_wp2_with fail
          (try simp only [Exit.inBlock, Exit.then])
          refine bodyPost_ret (v := .agg #[I mh, I 0, Value.bool false]) ?_ rfl ⟨HR.out, HG.out.bel⟩
          exact results_cell_row rfl _ _ gz 73 _ (0, 0) _ rfl (HG.out.at 0 rfl) Try.underlying73 rfl infoT
end Dly
namespace Dig
open Go.ChangeShapes Go.WideShapes Go.ChangeAt Go.RowKit
open Tab Flat TabArg
open Cnt (more ct)
structure Wd where
  on : Int
  off : Int
deriving DecidableEq
def Wd.cells (s : Wd) : List Value := [I s.on, I s.off]
instance : Inhabited Wd := ⟨⟨0, 0⟩⟩
section
variable {H : Type} {enc : TypeId × Value → H} {P : Program} {w : World} {base : Nat} {spare : Nat → Bool} {held : Bool}
end
theorem infoW : (Try.prog.info? 71).map (·.size) = some 2 := by kernel_rfl
/-- One tick. -/
def wat (s : Wd) (i : Bool) : Wd := if i = true then ⟨more s.on, 0⟩ else ⟨0, more s.off⟩
/-- Has it been alike for too long? -/
def stk (a b : Int) (s : Wd) : Bool := decide (0 < a ∧ a ≤ s.on) || decide (0 < b ∧ b ≤ s.off)
theorem oneMore_any (n : Int) (w : World) : Calls Try.prog 93 #[.int .i64 n] w fun e w' => e = .returned (.int .i64 (more n)) ∧ w = w' := by
  by_cases h1 : n < 0
  · have HE : Hid (more n = 1) := Lib.hid (by unfold more ct; rw [if_pos h1]; rfl)
    have em : max n 0 = 0 := by omega
    go_enter Try.func93, Try.ntmps93
    go_wp2
    go_ret
    exact ⟨Cnt.ret_int HE.out.symm, rfl⟩
  by_cases h2 : 9999 < n
  · have HE : Hid (more n = 10000) := Lib.hid (by unfold more ct; rw [if_neg h1, if_pos h2]; rfl)
    go_enter Try.func93, Try.ntmps93
    go_wp2
    go_ret
    exact ⟨Cnt.ret_int HE.out.symm, rfl⟩
  · have HE : Hid (more n = n + 1) := Lib.hid (by unfold more ct; rw [if_neg h1, if_neg h2])
    have e1 : IntKind.i64.wrap (n + 1) = n + 1 := by rw [IntKind.wrap_i64]; omega
    go_enter Try.func93, Try.ntmps93
    go_wp2
    go_ret
    exact ⟨Cnt.ret_int HE.out.symm, rfl⟩
theorem oneMore_is {n m : Int} (h : more n = m) (w : World) : Calls Try.prog 93 #[.int .i64 n] w fun e w' => e = .returned (.int .i64 m) ∧ w = w' := by rw [← h]; exact oneMore_any n w
theorem rmore_is {n m : Int} (h : more n = m) (w : World) : Calls Try.prog 79 #[.int .i64 n] w fun e w' => e = .returned (.int .i64 m) ∧ w = w' := by rw [← h]; exact Cnt.rmore_any n w
theorem step_is {a b a' b' : Int} {i : Bool} (hs : wat ⟨a, b⟩ i = ⟨a', b'⟩) (w : World) : Calls Try.prog 75 #[.agg #[I a, I b], .bool i] w fun e w' => e = .returned (.agg #[I a', I b']) ∧ Below w.heap.size w w' := by
  obtain ⟨ma, hma⟩ : ∃ c, more a = c := ⟨_, rfl⟩
  obtain ⟨mb, hmb⟩ : ∃ c, more b = c := ⟨_, rfl⟩
  have HA := Lib.hid hma
  have HB := Lib.hid hmb
  have h0 := ((Blk.Bks.nil w).alloc #[I a, I b] 71).alloc #[I 0, I 0] 71
  rw [show (w.alloc (.cells #[I a, I b] 71)).heap.size = w.heap.size + 1 by simp] at h0
  cases i
  · obtain ⟨rfl, rfl⟩ : a' = 0 ∧ b' = mb := by
      unfold wat at hs
      simp only [Bool.false_eq_true, if_true, if_false, Wd.mk.injEq] at hs
      omega
    clear hs hma hmb
    go_enter Try.func75, Try.ntmps75
    go_upto_region 1 with fail
    generalize World.alloc (World.alloc w _) _ = u at h0 ⊢
    generalize hgz : w.heap.size + 1 = gz at h0 ⊢
    generalize w.heap.size = gs at h0 ⊢
    clear hgz
    have H0 := Lib.hid h0
    clear h0
    have k1_0 : u.cell? ⟨gs, 0, none⟩ = some (I a) := H0.out.cell 1 0 rfl rfl
    have k1_1 : u.cell? ⟨gs, 1, none⟩ = some (I b) := H0.out.cell 1 1 rfl rfl
    go_wp2_with (first | (go_at_call 93; with_reducible refine (oneMore_is HB.out _).mono ?_; rintro e w' ⟨rfl, rfl⟩) | (refine wpList_store_row rfl 71 _ _ rfl gz #[I 0, I b'] rfl rfl 71 _ (H0.out.at 0 rfl) infoW rfl (by simp [Value.oneCell']) ?_))
    have hput := H0.out.put 0 rfl #[I 0, I b']
    simp only [List.set_cons_succ, List.set_cons_zero] at hput
    generalize World.setRow _ gz _ = v2 at hput ⊢
    have HG := Lib.hid hput
    clear hput
    go_wp2_with fail
    (try simp only [Exit.inBlock, Exit.then])
    refine bodyPost_ret (v := .agg #[I 0, I b']) ?_ rfl ⟨rfl, HG.out.bel⟩
    exact results_cell_row rfl _ _ gz 71 _ (0, 0) _ rfl (HG.out.at 0 rfl) Try.underlying71 rfl infoW
  · obtain ⟨rfl, rfl⟩ : a' = ma ∧ b' = 0 := by
      unfold wat at hs
      simp only [Bool.false_eq_true, if_true, if_false, Wd.mk.injEq] at hs
      omega
    clear hs hma hmb
    go_enter Try.func75, Try.ntmps75
    go_upto_region 1 with fail
    generalize World.alloc (World.alloc w _) _ = u at h0 ⊢
    generalize hgz : w.heap.size + 1 = gz at h0 ⊢
    generalize w.heap.size = gs at h0 ⊢
    clear hgz
    have H0 := Lib.hid h0
    clear h0
    have k1_0 : u.cell? ⟨gs, 0, none⟩ = some (I a) := H0.out.cell 1 0 rfl rfl
    have k1_1 : u.cell? ⟨gs, 1, none⟩ = some (I b) := H0.out.cell 1 1 rfl rfl
    go_wp2_with (first | (go_at_call 93; with_reducible refine (oneMore_is HA.out _).mono ?_; rintro e w' ⟨rfl, rfl⟩) | (refine wpList_store_row rfl 71 _ _ rfl gz #[I a', I 0] rfl rfl 71 _ (H0.out.at 0 rfl) infoW rfl (by simp [Value.oneCell']) ?_))
    have hput := H0.out.put 0 rfl #[I a', I 0]
    simp only [List.set_cons_succ, List.set_cons_zero] at hput
    generalize World.setRow _ gz _ = v2 at hput ⊢
    have HG := Lib.hid hput
    clear hput
    go_wp2_with fail
    (try simp only [Exit.inBlock, Exit.then])
    refine bodyPost_ret (v := .agg #[I a', I 0]) ?_ rfl ⟨rfl, HG.out.bel⟩
    exact results_cell_row rfl _ _ gz 71 _ (0, 0) _ rfl (HG.out.at 0 rfl) Try.underlying71 rfl infoW
theorem rwatch_is {a b a' b' : Int} {i : Bool} (hs : wat ⟨a, b⟩ i = ⟨a', b'⟩) (w : World) : Calls Try.prog 55 #[.agg #[I a, I b], .bool i] w fun e w' => e = .returned (.agg #[I a', I b']) ∧ Below w.heap.size w w' := by
  obtain ⟨ma, hma⟩ : ∃ c, more a = c := ⟨_, rfl⟩
  obtain ⟨mb, hmb⟩ : ∃ c, more b = c := ⟨_, rfl⟩
  have HA := Lib.hid hma
  have HB := Lib.hid hmb
  have h0 := ((Blk.Bks.nil w).alloc #[I a, I b] 71).alloc #[I 0, I 0] 71
  rw [show (w.alloc (.cells #[I a, I b] 71)).heap.size = w.heap.size + 1 by simp] at h0
  cases i
  · obtain ⟨rfl, rfl⟩ : a' = 0 ∧ b' = mb := by
      unfold wat at hs
      simp only [Bool.false_eq_true, if_true, if_false, Wd.mk.injEq] at hs
      omega
    clear hs hma hmb
    go_enter Try.func55, Try.ntmps55
    go_upto_region 1 with fail
    generalize World.alloc (World.alloc w _) _ = u at h0 ⊢
    generalize hgz : w.heap.size + 1 = gz at h0 ⊢
    generalize w.heap.size = gs at h0 ⊢
    clear hgz
    have H0 := Lib.hid h0
    clear h0
    have k1_0 : u.cell? ⟨gs, 0, none⟩ = some (I a) := H0.out.cell 1 0 rfl rfl
    have k1_1 : u.cell? ⟨gs, 1, none⟩ = some (I b) := H0.out.cell 1 1 rfl rfl
    go_wp2_with (first | (go_at_call 79; with_reducible refine (rmore_is HB.out _).mono ?_; rintro e w' ⟨rfl, rfl⟩) | (refine wpList_store_row rfl 71 _ _ rfl gz #[I 0, I b'] rfl rfl 71 _ (H0.out.at 0 rfl) infoW rfl (by simp [Value.oneCell']) ?_))
    have hput := H0.out.put 0 rfl #[I 0, I b']
    simp only [List.set_cons_succ, List.set_cons_zero] at hput
    generalize World.setRow _ gz _ = v2 at hput ⊢
    have HG := Lib.hid hput
    clear hput
    go_wp2_with fail
    (try simp only [Exit.inBlock, Exit.then])
    refine bodyPost_ret (v := .agg #[I 0, I b']) ?_ rfl ⟨rfl, HG.out.bel⟩
    exact results_cell_row rfl _ _ gz 71 _ (0, 0) _ rfl (HG.out.at 0 rfl) Try.underlying71 rfl infoW
  · obtain ⟨rfl, rfl⟩ : a' = ma ∧ b' = 0 := by
      unfold wat at hs
      simp only [Bool.false_eq_true, if_true, if_false, Wd.mk.injEq] at hs
      omega
    clear hs hma hmb
    go_enter Try.func55, Try.ntmps55
    go_upto_region 1 with fail
    generalize World.alloc (World.alloc w _) _ = u at h0 ⊢
    generalize hgz : w.heap.size + 1 = gz at h0 ⊢
    generalize w.heap.size = gs at h0 ⊢
    clear hgz
    have H0 := Lib.hid h0
    clear h0
    have k1_0 : u.cell? ⟨gs, 0, none⟩ = some (I a) := H0.out.cell 1 0 rfl rfl
    have k1_1 : u.cell? ⟨gs, 1, none⟩ = some (I b) := H0.out.cell 1 1 rfl rfl
    go_wp2_with (first | (go_at_call 79; with_reducible refine (rmore_is HA.out _).mono ?_; rintro e w' ⟨rfl, rfl⟩) | (refine wpList_store_row rfl 71 _ _ rfl gz #[I a', I 0] rfl rfl 71 _ (H0.out.at 0 rfl) infoW rfl (by simp [Value.oneCell']) ?_))
    have hput := H0.out.put 0 rfl #[I a', I 0]
    simp only [List.set_cons_succ, List.set_cons_zero] at hput
    generalize World.setRow _ gz _ = v2 at hput ⊢
    have HG := Lib.hid hput
    clear hput
    go_wp2_with fail
    (try simp only [Exit.inBlock, Exit.then])
    refine bodyPost_ret (v := .agg #[I a', I 0]) ?_ rfl ⟨rfl, HG.out.bel⟩
    exact results_cell_row rfl _ _ gz 71 _ (0, 0) _ rfl (HG.out.at 0 rfl) Try.underlying71 rfl infoW
theorem stuck_is {m n a b : Int} {r : Bool} (hs : stk m n ⟨a, b⟩ = r) (w : World) : Calls Try.prog 82 #[.int .i64 m, .int .i64 n, .agg #[I a, I b]] w fun e w' => e = .returned (.bool r) ∧ Below w.heap.size w w' := by
  have h0 := (Blk.Bks.nil w).alloc #[I a, I b] 71
  unfold stk at hs
  simp only at hs
  have way : r = true ∧ (0 < m ∧ m ≤ a) ∨ r = true ∧ (¬ 0 < m) ∧ (0 < n ∧ n ≤ b) ∨ r = true ∧ (0 < m ∧ ¬ m ≤ a) ∧ (0 < n ∧ n ≤ b) ∨ r = false ∧ (¬ 0 < m) ∧ ¬ 0 < n ∨ r = false ∧ (¬ 0 < m) ∧ 0 < n ∧ ¬ n ≤ b ∨ r = false ∧ (0 < m ∧ ¬ m ≤ a) ∧ ¬ 0 < n ∨ r = false ∧ (0 < m ∧ ¬ m ≤ a) ∧ 0 < n ∧ ¬ n ≤ b := by
    subst hs
    by_cases h1 : 0 < m ∧ m ≤ a
    · exact .inl ⟨by simp [h1], h1⟩
    · by_cases h2 : 0 < n ∧ n ≤ b
      · simp only [h2, and_self, decide_true, Bool.or_true, true_and, and_true]; omega
      · simp only [h1, h2, decide_false, Bool.or_false, Bool.false_eq_true, false_and, false_or, true_and]; omega
  clear hs
  have HS : Hid (r = r) := Lib.hid rfl
  rcases way with ⟨rfl, h1, h2⟩ | ⟨rfl, h1, h2, h3⟩ | ⟨rfl, ⟨h1, h2⟩, h3, h4⟩ | ⟨rfl, h1, h2⟩ | ⟨rfl, h1, h2, h3⟩ | ⟨rfl, ⟨h1, h2⟩, h3⟩ | ⟨rfl, ⟨h1, h2⟩, h3, h4⟩
  all_goals
    go_enter Try.func82, Try.ntmps82
    go_upto_region 1 with fail
    generalize World.alloc w _ = u at h0 ⊢
    generalize w.heap.size = gs at h0 ⊢
    have H0 := Lib.hid h0
    clear h0
    have k0_0 : u.cell? ⟨gs, 0, none⟩ = some (I a) := H0.out.cell 0 0 rfl rfl
    have k0_1 : u.cell? ⟨gs, 1, none⟩ = some (I b) := H0.out.cell 0 1 rfl rfl
    go_wp2
    go_ret
    exact ⟨rfl, H0.out.bel⟩
theorem rstuck_is {m n a b : Int} {r : Bool} (hs : stk m n ⟨a, b⟩ = r) (w : World) : Calls Try.prog 61 #[.int .i64 m, .int .i64 n, .agg #[I a, I b]] w fun e w' => e = .returned (.bool r) ∧ Below w.heap.size w w' := by
  have h0 := (Blk.Bks.nil w).alloc #[I a, I b] 71
  unfold stk at hs
  simp only at hs
  have way : r = true ∧ (0 < m ∧ m ≤ a) ∨ r = true ∧ (¬ 0 < m) ∧ (0 < n ∧ n ≤ b) ∨ r = true ∧ (0 < m ∧ ¬ m ≤ a) ∧ (0 < n ∧ n ≤ b) ∨ r = false ∧ (¬ 0 < m) ∧ ¬ 0 < n ∨ r = false ∧ (¬ 0 < m) ∧ 0 < n ∧ ¬ n ≤ b ∨ r = false ∧ (0 < m ∧ ¬ m ≤ a) ∧ ¬ 0 < n ∨ r = false ∧ (0 < m ∧ ¬ m ≤ a) ∧ 0 < n ∧ ¬ n ≤ b := by
    subst hs
    by_cases h1 : 0 < m ∧ m ≤ a
    · exact .inl ⟨by simp [h1], h1⟩
    · by_cases h2 : 0 < n ∧ n ≤ b
      · simp only [h2, and_self, decide_true, Bool.or_true, true_and, and_true]; omega
      · simp only [h1, h2, decide_false, Bool.or_false, Bool.false_eq_true, false_and, false_or, true_and]; omega
  clear hs
  have HS : Hid (r = r) := Lib.hid rfl
  rcases way with ⟨rfl, h1, h2⟩ | ⟨rfl, h1, h2, h3⟩ | ⟨rfl, ⟨h1, h2⟩, h3, h4⟩ | ⟨rfl, h1, h2⟩ | ⟨rfl, h1, h2, h3⟩ | ⟨rfl, ⟨h1, h2⟩, h3⟩ | ⟨rfl, ⟨h1, h2⟩, h3, h4⟩
  all_goals
    go_enter Try.func61, Try.ntmps61
    go_upto_region 1 with fail
    generalize World.alloc w _ = u at h0 ⊢
    generalize w.heap.size = gs at h0 ⊢
    have H0 := Lib.hid h0
    clear h0
    have k0_0 : u.cell? ⟨gs, 0, none⟩ = some (I a) := H0.out.cell 0 0 rfl rfl
    have k0_1 : u.cell? ⟨gs, 1, none⟩ = some (I b) := H0.out.cell 0 1 rfl rfl
    go_wp2
    go_ret
    exact ⟨rfl, H0.out.bel⟩
end Dig
namespace QT
open Go Go.RowKit
section
variable {P : Program} {ops : Array Oper} {md : Region.Mode} {C : World → Prop} {m n : Nat}
/-- Nothing of the end comes up ahead of the head: each of the head is waited for by a later one, at the latest by number n. -/
def sinks (md : Region.Mode) (ops : Array Oper) (m n : Nat) : Bool := (List.range n).all fun i => decide (i < m) || (List.range (n + 1)).any fun j => decide (i < j) && Region.waitsFor md ops j i
/-- The first m wait for none but the first m. -/
def shut (md : Region.Mode) (ops : Array Oper) (m : Nat) : Bool := (List.range m).all fun j => match ops[j]? with | some o => o.after.all fun e => !Region.binds md e || decide (e.on < m) | none => true
def begun (ops : Array Oper) (m : Nat) : Array Bool := Array.replicate m true ++ Array.replicate (ops.size - m) false
/-- What has come up: the first m, and what it waits for. -/
structure Inv (md : Region.Mode) (ops : Array Oper) (m n : Nat) (L : Array Bool) : Prop where
  size : L.size = ops.size
  first : ∀ j, j < m → L.getD j false = true
  back : ∀ j o, ops[j]? = some o → L.getD j false = true → ∀ e ∈ o.after, Region.binds md e = true → L.getD e.on false = true
  rest : ∀ t, n ≤ t → t < ops.size → L.getD t true = false
theorem Inv.set {i : Nat} {L : Array Bool} (h : Inv md ops m n L) (hi : i ∈ Region.ready md ops L) (hn : i < n) : Inv md ops m n (L.setIfInBounds i true) := by
  obtain ⟨_, oi, hoi, hall⟩ := mem_ready.1 hi
  refine ⟨by simp [h.size], fun j hj => getD_set_true (h.first j hj), fun j o hj hl e he hb => ?_, fun t h1 h2 => (getD_set_ne true (by omega)).trans (h.rest t h1 h2)⟩
  rcases Nat.decEq i j with hij | hij
  · rw [getD_set_ne false hij] at hl
    exact getD_set_true (h.back j o hj hl e he hb)
  · subst hij
    obtain rfl : o = oi := Option.some.inj (hj.symm.trans hoi)
    exact getD_set_true (hall e he hb)
/-- As long as one of the head has not come up, none of the end is ready. -/
theorem later {L : Array Bool} (hs : sinks md ops m n = true) (hc : Region.chainB md ops n = true) (hn : n < ops.size) (h : Inv md ops m n L) :
    ∀ (d i : Nat), n - i ≤ d → i < n → L.getD i true = false → ∀ t ∈ Region.ready md ops L, t < n
  | 0, i, hd, hi, _, _, _ => by omega
  | d + 1, i, hd, hi, hun, t, ht => by
    rcases Nat.lt_or_ge t n with hlt | hge
    · exact hlt
    exfalso
    obtain ⟨_, ot, hot, hall⟩ := mem_ready.1 ht
    have htl : t < ops.size := (Array.getElem?_eq_some_iff.1 hot).1
    rcases Nat.eq_or_lt_of_le hge with rfl | hgt
    · have h1 := List.all_eq_true.1 hs i (List.mem_range.2 hi)
      have hm : ¬ i < m := fun hm => by have := getD_both hun; rw [h.first i hm] at this; cases this
      rw [decide_eq_false hm, Bool.false_or] at h1
      obtain ⟨j, hj, hj2⟩ := List.any_eq_true.1 h1
      simp only [Bool.and_eq_true, decide_eq_true_eq] at hj2
      obtain ⟨oj, hoj, e, he, hb, hon⟩ := Region.waitsFor_spec hj2.2
      have hjl := List.mem_range.1 hj
      have hno : L.getD e.on false = false := by rw [hon]; exact getD_both hun
      by_cases hjt : j = n
      · subst hjt
        obtain rfl : oj = ot := Option.some.inj (hoj.symm.trans hot)
        rw [hall e he hb] at hno
        cases hno
      · cases hl : L.getD j false with
        | true => rw [h.back j oj hoj hl e he hb] at hno; cases hno
        | false => exact absurd (later hs hc hn h d j (by omega) (by omega) (getD_in (by rw [h.size]; omega) hl) n ht) (by omega)
    · have h1 := List.all_eq_true.1 hc t (List.mem_range.2 htl)
      simp only [Bool.or_eq_true, decide_eq_true_eq] at h1
      obtain ⟨o', ho', e, he, hb, hon⟩ := Region.waitsFor_spec (h1.resolve_left (by omega))
      obtain rfl : o' = ot := Option.some.inj (ho'.symm.trans hot)
      have h2 := hall e he hb
      rw [hon, getD_both (h.rest (t - 1) (by omega) (by omega))] at h2
      cases h2
/-- Whatever of the head comes up next. -/
def anyT (P : Program) (md : Region.Mode) (ops : Array Oper) (C : World → Prop) (n : Nat) (E : Array Bool → Act → Prop) : Nat → Array Bool → Act → Prop
  | 0, L, a => E L a
  | f + 1, L, a => Region.ready md ops L ≠ [] ∧ ∀ i ∈ Region.ready md ops L, i < n ∧ qOp P ops C i (anyT P md ops C n E f (L.setIfInBounds i true)) a
theorem wpAny_of {g : Nat} {E : Array Bool → Act → Prop} {Q : Exit → Act → World → Prop} (hE : ∀ L a w, C w → E L a → wpAny P md ops Q g L a w) : ∀ (f : Nat) (L : Array Bool) (a : Act) (w : World), C w → anyT P md ops C n E f L a → wpAny P md ops Q (f + g) L a w
  | 0, L, a, w, hw, h => by rw [Nat.zero_add]; exact hE _ _ _ hw h
  | f + 1, L, a, w, hw, h => by
    rw [Nat.add_right_comm]
    exact ⟨fun h0 => absurd h0 h.1, fun i hi => wpOp_of_qOp hw (fun a' w' hw' h' => wpAny_of hE f _ a' w' hw' h') (h.2 i hi).2⟩
theorem one {i : Nat} {oi : Oper} {v : Value} {E : Array Bool → Act → Prop} (hi : ops[i]? = some oi) (hsel : ∀ (j : Nat) (o : Oper) cs b, ops[j]? = some o → o.op ≠ .select cs b)
    (hs : sinks md ops m n = true) (hc : Region.chainB md ops n = true) (hn : n < ops.size) (hin : i < n) (hE : ∀ L a, E L a → ∀ j ∈ Region.ready md ops L, n ≤ j) : ∀ (f : Nat) (L : Array Bool) (a : Act), Inv md ops m n L →
      (∀ j oj, ops[j]? = some oj → j ≠ i → L.getD j true = false → (∀ e ∈ oj.after, Region.binds md e = true → e.on ≠ i) → oi.apart ops oj = true) →
      i ∈ Region.ready md ops L → YieldsIn P ops C oi v a → anyT P md ops C n E f (L.setIfInBounds i true) (a.put oi.dst v) → anyT P md ops C n E (f + 1) L a := by
  intro f
  induction f with
  | zero =>
    intro L a inv _ hr hy H
    refine ⟨List.ne_nil_of_mem hr, fun j hj => ?_⟩
    have hjn := later hs hc hn inv _ i (Nat.le_refl _) hin (mem_ready.1 hr).1 j hj
    refine ⟨hjn, ?_⟩
    rcases Nat.decEq j i with hji | rfl
    · exact absurd (hE _ _ H j (ready_mono hj hji)) (by omega)
    · exact hy.qOp hi H
  | succ f ih =>
    intro L a inv hfree hr hy H
    refine ⟨List.ne_nil_of_mem hr, fun j hj => ?_⟩
    have hjn := later hs hc hn inv _ i (Nat.le_refl _) hin (mem_ready.1 hr).1 j hj
    refine ⟨hjn, ?_⟩
    rcases Nat.decEq j i with hji | rfl
    · obtain ⟨hjun, oj, hoj, hall⟩ := mem_ready.1 hj
      have hno : ∀ e ∈ oj.after, Region.binds md e = true → e.on ≠ i := fun e he hb heq => by
        have h1 := hall e he hb
        rw [heq, getD_both (mem_ready.1 hr).1] at h1
        cases h1
      refine qOp_mono (fun a' h3 => ih (L.setIfInBounds j true) a' (inv.set hj hjn) (fun k ok hk hki hun hnk => ?_) (ready_mono hr (Ne.symm hji)) h3.1 ?_)
        (qOp_put hoj (hfree j oj hoj hji hjun hno) (fun cs b => hsel i oi cs b hi) (fun cs b => hsel j oj cs b hoj) hy (H.2 j (ready_mono hj hji)).2)
      · refine hfree k ok hk hki ?_ hnk
        rcases Nat.decEq j k with hjk | rfl
        · rwa [getD_set_ne true hjk] at hun
        · exact hjun
      · rw [Array.setIfInBounds_comm _ _ hji]
        exact h3.2
    · exact hy.qOp hi H
theorem lex {g : Nat} {E : Act → Prop} (hsel : Region.noSelect ops = true) (hs : sinks md ops m n = true) (hc : Region.chainB md ops n = true) (hn : n < ops.size) : ∀ (l : List Oper) (k : Nat) (L : Array Bool) (a : Act), (∀ j, j < l.length → l[j]? = ops[k + j]?) → k + l.length = n → Inv md ops m n L →
    Region.lexHead md ops g l.length k L = true → wpQuiet P ops C E l a → anyT P md ops C n (fun L' a' => Region.seqB md ops g n L' = true ∧ E a') l.length L a
  | [], k, L, a, _, hk, _, hB, h => by
    obtain rfl : k = n := hk
    exact ⟨hB, h⟩
  | o :: l, k, L, a, hl, hk, inv, hB, h => by
    have h0 : ops[k]? = some o := (hl 0 (Nat.zero_lt_succ _)).symm
    simp only [List.length_cons, Region.lexHead, Bool.and_eq_true] at hB hk
    obtain ⟨⟨hr, hf⟩, hB'⟩ := hB
    have hr' : k ∈ Region.ready md ops L := List.contains_iff_mem.1 hr
    have hst : qOp P ops C k (wpQuiet P ops C E l) a := by unfold qOp; rw [h0]; exact h
    obtain ⟨v, hy, hK⟩ := yieldsIn_of_qOp h0 hst
    refine one h0 (Region.noSelect_spec hsel) hs hc hn (by omega) (fun L' a' hL => seqB_ready hL.1) l.length L a inv (Region.free_spec h0 hf) hr' hy (lex hsel hs hc hn l (k + 1) _ _ (fun j hj => ?_) (by omega) (inv.set hr' (by omega)) hB' hK)
    have := hl (j + 1) (Nat.succ_lt_succ hj)
    rwa [show k + (j + 1) = k + 1 + j by omega] at this
theorem getD_begun {m j : Nat} (hm : m ≤ ops.size) (d : Bool) (hj : j < ops.size) : (begun ops m).getD j d = decide (j < m) := by
  have hsz : (begun ops m).size = ops.size := by simp [begun]; omega
  have h1 : (begun ops m)[j]? = some (decide (j < m)) := by
    unfold begun
    rw [Array.getElem?_append]
    split <;> rename_i h
    · simp at h; simp [h]
    · simp at h
      have hr : (Array.replicate (ops.size - m) false)[j - m]? = some false := by rw [Array.getElem?_replicate]; simp; omega
      simp only [Array.size_replicate]
      rw [hr]
      simp; omega
  rw [Array.getD_eq_getD_getElem?, h1]
  rfl
theorem inv_begun (hm : m ≤ n) (hn : n < ops.size) (hh : shut md ops m = true) : Inv md ops m n (begun ops m) := by
  have hsz : (begun ops m).size = ops.size := by simp [begun]; omega
  refine ⟨hsz, fun j hj => by rw [getD_begun (by omega) _ (by omega)]; simpa using hj, fun j o hj hl e he hb => ?_, fun t h1 h2 => by rw [getD_begun (by omega) _ h2]; simp; omega⟩
  have hjs : j < ops.size := (Array.getElem?_eq_some_iff.1 hj).1
  rw [getD_begun (by omega) _ hjs, decide_eq_true_eq] at hl
  have h1 := List.all_eq_true.1 hh j (List.mem_range.2 hl)
  simp only [hj] at h1
  have h2 := Array.all_eq_true_iff_forall_mem.1 h1 e he
  simp only [hb, Bool.not_true, Bool.false_or, decide_eq_true_eq] at h2
  rw [getD_begun (by omega) _ (by omega)]
  simpa using h2
def okB (md : Region.Mode) (ops : Array Oper) (m n : Nat) : Bool :=
  Region.noSelect ops && decide (n < ops.size) && decide (m ≤ n) && shut md ops m && sinks md ops m n && Region.chainB md ops n && Region.lexHead md ops (ops.size - n) (n - m) m (begun ops m)
/-- Behind the first m. -/
theorem behind {Q : Exit → Act → World → Prop} {a : Act} {w : World} {l : List Oper} (hB : okB md l.toArray m n = true) (hC : C w)
    (h : wpQuiet P l.toArray C (fun a' => ∀ w', C w' → wpList P l.toArray Q (l.drop n) a' w') ((l.take n).drop m) a) : wpAny P md l.toArray Q (l.length - m) (begun l.toArray m) a w := by
  simp only [okB, Bool.and_eq_true, decide_eq_true_eq] at hB
  obtain ⟨⟨⟨⟨⟨⟨hsel, hn⟩, hm⟩, hh⟩, hs⟩, hc⟩, hlex⟩ := hB
  have hn' : n < l.length := by simpa using hn
  have htl : ((l.take n).drop m).length = n - m := by simp; omega
  have hdl : (l.drop n).length = l.toArray.size - n := by simp
  have H := lex (md := md) (g := l.toArray.size - n) hsel hs hc hn ((l.take n).drop m) m _ a (fun j hj => by
    rw [htl] at hj
    rw [List.getElem?_drop, List.getElem?_take, if_pos (by omega)]
    simp) (by rw [htl]; omega) (inv_begun hm hn hh) (by rw [htl]; exact hlex) h
  have := wpAny_of (Q := Q) (g := l.toArray.size - n) (fun L a' w' hw' hL => by
    have := wpAny_of_seq (md := md) (Q' := Q) (l.drop n) n L a' w' (fun j => by simp [List.getElem?_drop]) (by rw [hdl]; exact hL.1) (hL.2 w' hw')
    rwa [hdl] at this) _ _ _ _ hC H
  rwa [htl, show n - m + (l.toArray.size - n) = l.length - m by simp; omega] at this
/-- **No pure ones ahead.** -/
theorem region {id : Nat} {Q : Exit → Act → World → Prop} {a : Act} {w : World} {l : List Oper} (B n : Nat) (hm : P.follows .mixedOrders = true) (hB : okB .any l.toArray 0 n = true)
    (h : wpQuiet P l.toArray (fun w' => ∃ p : QB.By B w, w' = p.world) (fun a' => ∀ w', (∃ p : QB.By B w, w' = p.world) → wpList P l.toArray Q (l.drop n) a' w') (l.take n) a) : (Code.region id l.toArray true).wp P Q a w := by
  have := behind (C := fun w' => ∃ p : QB.By B w, w' = p.world) (w := w.drew) (md := .any) (Q := Q) hB ⟨⟨w.drew, (Below.refl _ _).drew⟩, rfl⟩ (by simpa using h)
  refine wp_region_any hm ?_
  simpa [begun] using this
/-- **One pure operation ahead**: a variable's value, a constant. -/
theorem region1 {id : Nat} {Q : Exit → Act → World → Prop} {a : Act} {w : World} {o : Oper} {l : List Oper} {v : Value} (B n : Nat) (hm : P.follows .mixedOrders = true) (hB : okB .any (o :: l).toArray 1 n = true) (hf : Region.free .any (o :: l).toArray (Array.replicate (l.length + 1) false) 0 = true)
    (hr : (Region.ready .any (o :: l).toArray (Array.replicate (l.length + 1) false)).contains 0 = true) (hQ : ∀ c a w, Q (.panic c) (a.put o.dst v) w → Q (.panic c) a w) (hy : Yields P (o :: l).toArray o v a)
    (h : wpQuiet P (o :: l).toArray (fun w' => ∃ p : QB.By B w, w' = p.world) (fun a' => ∀ w', (∃ p : QB.By B w, w' = p.world) → wpList P (o :: l).toArray Q ((o :: l).drop n) a' w') (((o :: l).take n).drop 1) (a.put o.dst v)) : (Code.region id (o :: l).toArray true).wp P Q a w := by
  have hs : Region.noSelect (o :: l).toArray = true := by
    simp only [okB, Bool.and_eq_true] at hB
    exact hB.1.1.1.1.1.1
  have := behind (C := fun w' => ∃ p : QB.By B w, w' = p.world) (w := w.drew) (md := .any) (Q := Q) hB ⟨⟨w.drew, (Below.refl _ _).drew⟩, rfl⟩ h
  refine wp_region_any hm ?_
  have e1 : (Array.replicate (l.length + 1) false).setIfInBounds 0 true = begun (o :: l).toArray 1 := by
    apply Array.ext'
    simp [begun, List.replicate_succ]
  simp only [List.size_toArray, List.length_cons]
  exact wpAny_take (i := 0) (by simp) hs hf hr hQ hy (by rw [e1]; simpa using this)
end
end QT
namespace Pw
open Go Go.RowKit
open Tab
structure W (P : Program) (ops : Array Oper) (D : Nat → World → Prop) (cs : List Nat) (Q : Act → Prop) (k : Nat) (l : List Oper) (a : Act) : Prop where
  out : Ph.wpPh P ops D cs Q k l a
section
variable {P : Program} {D : Nat → World → Prop} {ns : List Nat} {ops : Array Oper} {Q : Act → Prop} {k : Nat} {a : Act} {o : Oper} {rest : List Oper}
theorem region {id : Nat} {Q : Exit → Act → World → Prop} {a : Act} {w : World} {l : List Oper} (D : Nat → World → Prop) (cs : List Nat) (hm : P.follows .mixedOrders = true) (hB : Ph.okB .any l.toArray cs = true) (hD : D 0 w.drew)
    (h : W P l.toArray D cs (fun a' => ∀ w', D cs.length w' → Q .normal a' w') 0 l a) : (Code.region id l.toArray true).wp P Q a w := Ph.wp_region_ph D cs hm hB hD h.out
end
end Pw
namespace Dtc
open Go.ChangeShapes Go.WideShapes Go.ChangeAt Go.RowKit
open Tab Flat TabArg Go.Proofs.Fl
open Lvl (Lv stp failed)
open Dig (Wd wat stk)
open Dly (Tm tmr)
open Secs (quo_holds ret_int)
structure Ch where
  lv : Lv
  wd : Wd
  tm : Tm
deriving DecidableEq
def Ch.cells (c : Ch) : List Value := [.bool c.lv.on, I c.lv.bad, I c.wd.on, I c.wd.off, I c.tm.held, I c.tm.tail, .bool c.tm.out]
theorem Ch.one (c : Ch) : c.cells.toArray.all (·.oneCell') = true := by simp [Ch.cells, Value.oneCell']
theorem Ch.inj {c d : Ch} (h : c.cells = d.cells) : c = d := by
  obtain ⟨⟨a0, a1⟩, ⟨a2, a3⟩, a4, a5, a6⟩ := c
  obtain ⟨⟨b0, b1⟩, ⟨b2, b3⟩, b4, b5, b6⟩ := d
  simp [Ch.cells] at h
  simp [h]
def zCh : Ch := ⟨⟨false, 0⟩, ⟨0, 0⟩, ⟨0, 0, false⟩⟩
instance : Inhabited Ch := ⟨zCh⟩
section
variable {H : Type} {enc : TypeId × Value → H} {P : Program} {w : World} {base : Nat} {spare : Nat → Bool} {held : Bool}
end
theorem infoC : (Try.prog.info? 75).map (·.size) = some 7 := by kernel_rfl
theorem infoD : (Try.prog.info? 65).map (·.size) = some 7 := by kernel_rfl
/-- a time of a table, in ticks: 0 for what is none -/
def tkv (s : Nat) : Int := if ok s = true then (tk s : Int) else 0
/-- one detector, one tick -/
def chn (d : Det) (c : Ch) (x : Nat) : Ch :=
  ⟨stp d.on d.off c.lv x, wat c.wd (Lvl.seen (stp d.on d.off c.lv x)), tmr (tkv d.delay) (tkv d.extend) c.tm (Lvl.seen (stp d.on d.off c.lv x))⟩
def out (d : Det) (c : Ch) : Bool := c.tm.out || (failed c.lv || stk d.maxOn d.maxOff c.wd)
abbrev NAN : Nat := 9221120237041090561
theorem nan_any (w : World) : Calls Try.prog 31 #[] w fun e w' => e = .returned (.float .f64 NAN) ∧ w = w' := by
  have hf := Lvl.frombits_call
  go_enter Try.func31, Try.ntmps31
  go_wp2_with (simp only [hf])
  go_ret
  exact ⟨rfl, rfl⟩
theorem ticks_is {x : Nat} {n : Int} (h : tkv x = n) (w : World) : Calls Try.prog 77 #[.float .f64 x] w fun e w' => e = .returned (.int .i64 n) ∧ w = w' := by
  subst h
  cases hk : ok x
  · have HK := Lib.hid hk
    have HE : Hid (tkv x = 0) := Lib.hid (by unfold tkv; rw [if_neg (by rw [hk]; simp)])
    clear hk
    go_enter Try.func77, Try.ntmps77
    go_wp2_with (go_at_call 97; refine (Secs.ticks_no quo_holds HK.out _).mono ?_; rintro e w' ⟨rfl, rfl⟩)
    go_ret
    exact ⟨ret_int HE.out.symm, rfl⟩
  · have HK := Lib.hid hk
    have HE : Hid (tkv x = (tk x : Int)) := Lib.hid (by unfold tkv; rw [if_pos hk])
    clear hk
    go_enter Try.func77, Try.ntmps77
    go_wp2_with (go_at_call 97; refine (Secs.ticks_yes quo_holds HK.out _).mono ?_; rintro e w' ⟨rfl, rfl⟩)
    go_ret
    exact ⟨ret_int HE.out.symm, rfl⟩
theorem rticks_is {x : Nat} {n : Int} {b : Bool} (h : tkv x = n) (hb : ok x = b) (w : World) : Calls Try.prog 53 #[.float .f64 x] w fun e w' => e = .returned (.tuple #[.int .i64 n, .bool b]) ∧ w = w' := by
  subst h hb
  cases hk : ok x
  · have HE : tkv x = 0 := by unfold tkv; rw [if_neg (by rw [hk]; simp)]
    rw [HE]; exact Secs.rticks_no hk w
  · have HE : tkv x = (tk x : Int) := by unfold tkv; rw [if_pos hk]
    rw [HE]; exact Secs.rticks_yes hk w
theorem elc_is {a : Option Addr} {cap len i : Nat} {l : List Ch} {w : World} {b : Bool} {n wa wb h t : Int} {o : Bool} (hr : RowOf 7 Ch.cells w ⟨a, cap⟩ l) (hn : l.length = len) (hc : l.getD i zCh = ⟨⟨b, n⟩, ⟨wa, wb⟩, h, t, o⟩) :
    Calls Try.prog 51 #[.slice a len cap, .int .i64 (i : Int), .agg #[.bool false, I 0, I 0, I 0, I 0, I 0, .bool false]] w fun e w' => e = .returned (.agg #[.bool b, I n, I wa, I wb, I h, I t, .bool o]) ∧ Below w.heap.size w w' := by
  have h0 := ((Blk.Bks.nil w).alloc #[.bool false, I 0, I 0, I 0, I 0, I 0, .bool false] 75).alloc #[.bool false, I 0, I 0, I 0, I 0, I 0, .bool false] 75
  rw [show (w.alloc (.cells #[.bool false, I 0, I 0, I 0, I 0, I 0, .bool false] 75)).heap.size = w.heap.size + 1 by simp] at h0
  have hlen := hr.len
  unfold maxLen at hlen
  rw [hn] at hlen
  by_cases hi : i < len
  · obtain ⟨y, hy, hl⟩ := hr.at (i := i) (v := l.getD i zCh) (by rw [List.getD_eq_getElem?_getD, List.getElem?_eq_getElem (by omega)]; rfl)
    obtain rfl : a = some y := hy
    rw [hc] at hl
    have HR := Lib.hid hl
    clear hl hr hc hn
    go_enter Try.func51, Try.ntmps51
    go_upto_region 1 with fail
    generalize World.alloc (World.alloc w _) _ = u at h0 ⊢
    generalize hgr : w.heap.size + 1 = gr at h0 ⊢
    generalize w.heap.size = gm at h0 ⊢
    clear hgr
    have H0 := Lib.hid h0
    clear h0
    have HL : Hid (Lies u (y.add (i * 7)) (Ch.cells ⟨⟨b, n⟩, ⟨wa, wb⟩, h, t, o⟩)) := Lib.hid (HR.out.below H0.out.bel)
    go_wp2_with (first | (refine Row.wpList_load_lies rfl 75 _ rfl (y.add (i * 7)) rfl (Ch.cells ⟨⟨b, n⟩, ⟨wa, wb⟩, h, t, o⟩) _ HL.out Try.underlying75 rfl infoC ?_) | (refine wpList_store_row rfl 75 _ _ rfl gr #[.bool b, I n, I wa, I wb, I h, I t, .bool o] rfl rfl 75 _ (H0.out.at 0 rfl) infoC rfl (by simp [Value.oneCell']) ?_))
    have hput := H0.out.put 0 rfl #[.bool b, I n, I wa, I wb, I h, I t, .bool o]
    simp only [List.set_cons_zero] at hput
    generalize World.setRow _ gr _ = u2 at hput ⊢
    have HG := Lib.hid hput
    clear hput
    go_wp2_with fail
    (try simp only [Exit.inBlock, Exit.then])
    refine bodyPost_ret (v := .agg #[.bool b, I n, I wa, I wb, I h, I t, .bool o]) ?_ rfl ⟨rfl, HG.out.bel⟩
    exact results_cell_row rfl _ _ gr 75 _ (0, 0) _ rfl (HG.out.at 0 rfl) Try.underlying75 rfl infoC
  · rw [List.getD_eq_getElem?_getD, List.getElem?_eq_none (by omega)] at hc
    have hc : zCh = _ := hc
    unfold zCh at hc
    injection hc with e1 e2 e3
    injection e1 with e11 e12
    injection e2 with e21 e22
    injection e3 with e31 e32 e33
    subst e11 e12 e21 e22 e31 e32 e33
    clear hr hn
    go_enter Try.func51, Try.ntmps51
    go_upto_region 1 with fail
    generalize World.alloc (World.alloc w _) _ = u at h0 ⊢
    generalize hgr : w.heap.size + 1 = gr at h0 ⊢
    generalize w.heap.size = gm at h0 ⊢
    clear hgr
    have H0 := Lib.hid h0
    clear h0
    have k1_0 : u.cell? ⟨gm, 0, none⟩ = some (Value.bool false) := H0.out.cell 1 0 rfl rfl
    have k1_1 : u.cell? ⟨gm, 1, none⟩ = some (I 0) := H0.out.cell 1 1 rfl rfl
    have k1_2 : u.cell? ⟨gm, 2, none⟩ = some (I 0) := H0.out.cell 1 2 rfl rfl
    have k1_3 : u.cell? ⟨gm, 3, none⟩ = some (I 0) := H0.out.cell 1 3 rfl rfl
    have k1_4 : u.cell? ⟨gm, 4, none⟩ = some (I 0) := H0.out.cell 1 4 rfl rfl
    have k1_5 : u.cell? ⟨gm, 5, none⟩ = some (I 0) := H0.out.cell 1 5 rfl rfl
    have k1_6 : u.cell? ⟨gm, 6, none⟩ = some (Value.bool false) := H0.out.cell 1 6 rfl rfl
    go_wp2_with (first | (refine wpList_store_row rfl 75 _ _ rfl gr #[.bool false, I 0, I 0, I 0, I 0, I 0, .bool false] rfl rfl 75 _ (H0.out.at 0 rfl) infoC rfl (by simp [Value.oneCell']) ?_))
    have hput := H0.out.put 0 rfl #[.bool false, I 0, I 0, I 0, I 0, I 0, .bool false]
    simp only [List.set_cons_zero] at hput
    generalize World.setRow _ gr _ = u2 at hput ⊢
    have HG := Lib.hid hput
    clear hput
    go_wp2_with fail
    (try simp only [Exit.inBlock, Exit.then])
    refine bodyPost_ret (v := .agg #[.bool false, I 0, I 0, I 0, I 0, I 0, .bool false]) ?_ rfl ⟨rfl, HG.out.bel⟩
    exact results_cell_row rfl _ _ gr 75 _ (0, 0) _ rfl (HG.out.at 0 rfl) Try.underlying75 rfl infoC
theorem elf_in {y : Addr} {cap len i x : Nat} {w : World} (hi : i < len) (hl : len ≤ cap) (hcap : cap ≤ maxLen) (hc : w.cell? (y.add i) = some (F x)) (z : Nat) :
    Calls Try.prog 52 #[.slice (some y) len cap, .int .i64 (i : Int), .float .f64 z] w fun e w' => e = .returned (.float .f64 x) ∧ w = w' := by
  unfold maxLen at hcap
  go_enter Try.func52, Try.ntmps52
  go_wp2
  go_ret
  exact ⟨rfl, rfl⟩
theorem elf_out {a : Option Addr} {cap len i : Nat} {w : World} (hi : len ≤ i) (z : Nat) :
    Calls Try.prog 52 #[.slice a len cap, .int .i64 (i : Int), .float .f64 z] w fun e w' => e = .returned (.float .f64 z) ∧ w = w' := by
  have hi2 : ¬ i < len := by omega
  go_enter Try.func52, Try.ntmps52
  go_wp2
  go_ret
  exact ⟨rfl, rfl⟩
end Dtc
namespace SetM
/-- The lowest eight bits. -/
def low (s : Int) : Nat := (s % 256).toNat
theorem low_lt (s : Int) : low s < 256 := by unfold low; omega
theorem low_nat (m : Nat) (h : m < 256) : low (m : Int) = m := by unfold low; omega
/-- Is p a phase of s? -/
def has (s p : Int) : Bool := decide (0 ≤ p) && (low s).testBit p.toNat
/-- The set of p alone: empty if p is not a phase. -/
def bit (p : Int) : Nat := if 0 ≤ p ∧ p < 8 then 2 ^ p.toNat else 0
def withN (s p : Int) : Nat := low s ||| bit p
theorem toNat_low (s : Int) : (BitVec.ofInt 64 s).toNat % 256 = low s := by
  rw [BitVec.toNat_ofInt]
  unfold low
  show (s % ((18446744073709551616 : Nat) : Int)).toNat % 256 = _
  omega
theorem toNat_ofNat (b : Nat) (h : b < 256) : (BitVec.ofInt 64 (b : Int)).toNat = b := by
  rw [BitVec.toNat_ofInt]
  show ((b : Int) % ((18446744073709551616 : Nat) : Int)).toNat = _
  omega
theorem wrap_small (n : Nat) (h : n < 256) : IntKind.i64.wrap (n : Int) = n := by
  rw [IntKind.wrap_i64]; omega
theorem and_low (s : Int) (b : Nat) (h : b < 256) : bits .and .i64 s (b : Int) = ((low s &&& b : Nat) : Int) := by
  show IntKind.i64.wrap ((BitVec.ofInt 64 s &&& BitVec.ofInt 64 (b : Int)).toNat : Nat) = _
  rw [BitVec.toNat_and, toNat_ofNat b h]
  have h1 : (BitVec.ofInt 64 s).toNat &&& b < 256 := Nat.and_lt_two_pow (n := 8) _ h
  have h2 : ((BitVec.ofInt 64 s).toNat &&& b) % 2 ^ 8 = _ := Nat.and_mod_two_pow
  rw [wrap_small _ h1, ← toNat_low s]
  rw [Nat.mod_eq_of_lt h1, Nat.mod_eq_of_lt (show b < 2 ^ 8 from h)] at h2
  rw [h2]
theorem bit_lt (p : Int) : bit p < 256 := by
  unfold bit
  split
  · rename_i h
    have : 2 ^ p.toNat ≤ 2 ^ 7 := Nat.pow_le_pow_right (by decide) (by omega)
    omega
  · decide
theorem bit_out {p : Int} (h : ¬ (0 ≤ p ∧ p < 8)) : bit p = 0 := by unfold bit; rw [if_neg h]
theorem with_lt (s p : Int) : withN s p < 256 := Nat.or_lt_two_pow (n := 8) (low_lt s) (bit_lt p)
theorem test_high (m k : Nat) (h : m < 256) (hk : 8 ≤ k) : m.testBit k = false :=
  Nat.testBit_lt_two_pow (Nat.lt_of_lt_of_le h (Nat.pow_le_pow_right (n := 2) (by decide) hk : 2 ^ 8 ≤ 2 ^ k))
theorem test_bit (p : Int) (k : Nat) : (bit p).testBit k = decide ((k : Int) = p ∧ k < 8) := by
  unfold bit
  split
  · rename_i h
    rw [Nat.testBit_two_pow]
    rw [Bool.eq_iff_iff, decide_eq_true_iff, decide_eq_true_iff]
    omega
  · rename_i h
    rw [Nat.zero_testBit]
    symm
    rw [decide_eq_false_iff_not]
    omega
theorem has_neg (s p : Int) (h : p < 0) : has s p = false := by unfold has; rw [decide_eq_false (by omega)]; rfl
theorem has_big (s p : Int) (h : 8 ≤ p) : has s p = false := by
  unfold has; rw [test_high _ _ (low_lt s) (by omega), Bool.and_false]
theorem has_nat (s : Int) (k : Nat) : has s k = (low s).testBit k := by unfold has; simp
/-- The document's own way to ask it. -/
theorem has_shr (s : Int) (k : Nat) (h : k < 8) : bits .and .i64 (s / 2 ^ k) 1 = if has s k then 1 else 0 := by
  have h1 := and_low (s / 2 ^ k) 1 (by decide)
  have h2 : low (s / 2 ^ k) &&& 1 = low s / 2 ^ k % 2 := by
    rw [Nat.and_one_is_mod]
    have h3 : k = 0 ∨ k = 1 ∨ k = 2 ∨ k = 3 ∨ k = 4 ∨ k = 5 ∨ k = 6 ∨ k = 7 := by omega
    unfold low
    rcases h3 with rfl | rfl | rfl | rfl | rfl | rfl | rfl | rfl
    all_goals (simp only [Nat.reducePow, Int.reducePow]; omega)
  rw [h2] at h1
  rw [has_nat, Nat.testBit_eq_decide_div_mod_eq]
  rw [show ((1 : Nat) : Int) = 1 from rfl] at h1
  rw [h1]
  have h4 : low s / 2 ^ k % 2 < 2 := Nat.mod_lt _ (by decide)
  split <;> rename_i h5
  · rw [of_decide_eq_true h5]; rfl
  · have : low s / 2 ^ k % 2 = 0 := by simp at h5; omega
    rw [this]; rfl
/-- The phases below k. -/
def upto (s : Int) (k : Nat) : List Int := ((List.range k).filter fun j => (low s).testBit j).map Int.ofNat
def list (s : Int) : List Int := upto s 8
theorem upto_zero (s : Int) : upto s 0 = [] := rfl
theorem upto_hit (s : Int) (k : Nat) (h : has s k = true) : upto s (k + 1) = upto s k ++ [(k : Int)] := by
  rw [has_nat] at h
  unfold upto; rw [List.range_succ, List.filter_append, List.map_append]; simp [h]
theorem upto_miss (s : Int) (k : Nat) (h : has s k = false) : upto s (k + 1) = upto s k := by
  rw [has_nat] at h
  unfold upto; rw [List.range_succ, List.filter_append, List.map_append]; simp [h]
theorem upto_len (s : Int) (k : Nat) : (upto s k).length ≤ k := by
  unfold upto; rw [List.length_map]; have := List.length_filter_le (fun j => (low s).testBit j) (List.range k); simpa using this
theorem list_len (s : Int) : (list s).length ≤ 8 := upto_len s 8
theorem mem_list (s p : Int) : p ∈ list s ↔ has s p = true := by
  unfold list upto
  rw [List.mem_map]
  constructor
  · rintro ⟨j, hj, rfl⟩
    rw [List.mem_filter] at hj
    rw [show Int.ofNat j = (j : Int) from rfl, has_nat]; exact hj.2
  · intro h
    have h0 : 0 ≤ p := by
      by_cases h1 : 0 ≤ p
      · exact h1
      · rw [has_neg s p (by omega)] at h; cases h
    have h8 : p < 8 := by
      by_cases h1 : p < 8
      · exact h1
      · rw [has_big s p (by omega)] at h; cases h
    obtain ⟨k, rfl⟩ := Int.eq_ofNat_of_zero_le h0
    rw [has_nat] at h
    have h9 : k < 8 := by omega
    exact ⟨k, List.mem_filter.2 ⟨List.mem_range.2 h9, h⟩, rfl⟩
theorem list_bd (s p : Int) (h : p ∈ list s) : 0 ≤ p ∧ p < 8 := by
  unfold list upto at h
  obtain ⟨j, hj, rfl⟩ := List.mem_map.1 h
  have := List.mem_range.1 (List.mem_filter.1 hj).1
  rw [show Int.ofNat j = (j : Int) from rfl]
  omega
/-- The set of a list. -/
def of (l : List Int) : Nat := l.foldl (fun m p => m ||| bit p) 0
theorem of_snoc (l : List Int) (p : Int) : of (l ++ [p]) = of l ||| bit p := by unfold of; rw [List.foldl_append]; rfl
theorem fold_lt (l : List Int) (m : Nat) (h : m < 256) : l.foldl (fun m p => m ||| bit p) m < 256 := by
  induction l generalizing m with
  | nil => exact h
  | cons p l ih => exact ih _ (Nat.or_lt_two_pow (n := 8) h (bit_lt p))
theorem of_lt (l : List Int) : of l < 256 := fold_lt l 0 (by decide)
theorem fold_test (l : List Int) (m k : Nat) : (l.foldl (fun m p => m ||| bit p) m).testBit k = (m.testBit k || decide ((k : Int) ∈ l ∧ k < 8)) := by
  induction l generalizing m with
  | nil => simp
  | cons p l ih =>
    rw [List.foldl_cons, ih, Nat.testBit_or, test_bit, Bool.or_assoc]
    congr 1
    rw [Bool.eq_iff_iff, Bool.or_eq_true, decide_eq_true_iff, decide_eq_true_iff, decide_eq_true_iff, List.mem_cons]
    constructor
    · rintro (⟨a, b⟩ | ⟨a, b⟩)
      · exact ⟨.inl a, b⟩
      · exact ⟨.inr a, b⟩
    · rintro ⟨a | a, b⟩
      · exact .inl ⟨a, b⟩
      · exact .inr ⟨a, b⟩
theorem of_test (l : List Int) (k : Nat) : (of l).testBit k = decide ((k : Int) ∈ l ∧ k < 8) := by
  unfold of; rw [fold_test, Nat.zero_testBit, Bool.false_or]
theorem eq_of {m m' : Nat} (h : m < 256) (h' : m' < 256) (e : ∀ k, k < 8 → m.testBit k = m'.testBit k) : m = m' := by
  apply Nat.eq_of_testBit_eq
  intro k
  by_cases hk : k < 8
  · exact e k hk
  · rw [test_high m k h (by omega), test_high m' k h' (by omega)]
/-- The document's own way to make it: phase by phase. -/
def refOf (l : List Int) : Nat → Nat
  | 0 => 0
  | k + 1 => if (k : Int) ∈ l then refOf l k ||| 2 ^ k else refOf l k
theorem refOf_hit (l : List Int) (k : Nat) (h : (k : Int) ∈ l) : refOf l (k + 1) = refOf l k ||| 2 ^ k := by rw [refOf, if_pos h]
theorem refOf_miss (l : List Int) (k : Nat) (h : ¬ (k : Int) ∈ l) : refOf l (k + 1) = refOf l k := by rw [refOf, if_neg h]
theorem refOf_lt (l : List Int) (k : Nat) : refOf l k < 2 ^ k := by
  induction k with
  | zero => exact Nat.one_pos
  | succ k ih =>
    have h1 : refOf l k < 2 ^ (k + 1) := Nat.lt_of_lt_of_le ih (Nat.pow_le_pow_right (by decide) (by omega))
    rw [refOf]
    split
    · exact Nat.or_lt_two_pow h1 (Nat.pow_lt_pow_right (by decide) (by omega))
    · exact h1
theorem refOf_test (l : List Int) (k j : Nat) : (refOf l k).testBit j = decide (j < k ∧ (j : Int) ∈ l) := by
  induction k with
  | zero => simp [refOf]
  | succ k ih =>
    by_cases h : (k : Int) ∈ l
    · rw [refOf_hit l k h, Nat.testBit_or, ih, Nat.testBit_two_pow, Bool.eq_iff_iff, Bool.or_eq_true, decide_eq_true_iff, decide_eq_true_iff, decide_eq_true_iff]
      constructor
      · rintro (⟨a, b⟩ | rfl)
        · exact ⟨by omega, b⟩
        · exact ⟨by omega, h⟩
      · rintro ⟨a, b⟩
        by_cases e : k = j
        · exact .inr e
        · exact .inl ⟨by omega, b⟩
    · rw [refOf_miss l k h, ih, Bool.eq_iff_iff, decide_eq_true_iff, decide_eq_true_iff]
      constructor
      · rintro ⟨a, b⟩
        exact ⟨by omega, b⟩
      · rintro ⟨a, b⟩
        have : j ≠ k := by rintro rfl; exact h b
        exact ⟨by omega, b⟩
theorem refOf_eq (l : List Int) : refOf l 8 = of l := by
  refine eq_of (refOf_lt l 8) (of_lt l) fun k hk => ?_
  rw [refOf_test, of_test, Bool.eq_iff_iff, decide_eq_true_iff, decide_eq_true_iff, and_comm]
theorem list_test (s : Int) (k : Nat) (hk : k < 8) : decide ((k : Int) ∈ list s ∧ k < 8) = (low s).testBit k := by
  rw [Bool.eq_iff_iff, decide_eq_true_iff, mem_list, has_nat]
  exact ⟨fun h => h.1, fun h => ⟨h, hk⟩⟩
theorem of_list (s : Int) : of (list s) = low s := by
  refine eq_of (of_lt _) (low_lt s) fun k hk => ?_
  rw [of_test, list_test s k hk]
theorem of_with (s p : Int) : of (list s ++ [p]) = withN s p := by
  rw [of_snoc, of_list]; rfl
end SetM
namespace Dtc
open Go.ChangeShapes Go.WideShapes Go.ChangeAt Go.RowKit
open Tab Flat TabArg Go.Proofs.Fl
open Lvl (Lv stp failed)
open Dig (Wd wat stk)
open Dly (Tm tmr)
open Secs (quo_holds ret_int)
theorem stepOne_is {ph mo mf n wa wb h t n' wa' wb' h' t' : Int} {on off dl ex x : Nat} {b o b' o' : Bool} (hx : x < 18446744073709551616) (hs : chn ⟨ph, on, off, dl, ex, mo, mf⟩ ⟨⟨b, n⟩, ⟨wa, wb⟩, h, t, o⟩ x = ⟨⟨b', n'⟩, ⟨wa', wb'⟩, h', t', o'⟩) (w : World) :
    Calls Try.prog 50 #[.agg #[I ph, F on, F off, F dl, F ex, I mo, I mf], .agg #[Value.bool b, I n, I wa, I wb, I h, I t, Value.bool o], .float .f64 x] w fun e w' => e = .returned (.agg #[Value.bool b', I n', I wa', I wb', I h', I t', Value.bool o']) ∧ Below w.heap.size w w' := by
  unfold chn at hs
  injection hs with e1 e2 e3
  dsimp only at e1 e2 e3
  rw [e1] at e2 e3
  obtain ⟨sn, hsn⟩ : ∃ r, Lvl.seen ⟨b', n'⟩ = r := ⟨_, rfl⟩
  rw [hsn] at e2 e3
  have HL := Lib.hid e1
  have HW := Lib.hid e2
  have HT := Lib.hid e3
  have HS := Lib.hid hsn
  have HX := Lib.hid hx
  clear e1 e2 e3 hsn hx
  have h0 := (((Blk.Bks.nil w).alloc #[I ph, F on, F off, F dl, F ex, I mo, I mf] 65).alloc #[Value.bool b, I n, I wa, I wb, I h, I t, Value.bool o] 75).alloc #[Value.bool false, I 0, I 0, I 0, I 0, I 0, Value.bool false] 75
  rw [show (w.alloc (.cells #[I ph, F on, F off, F dl, F ex, I mo, I mf] 65)).heap.size = w.heap.size + 1 by simp, show ((w.alloc (.cells #[I ph, F on, F off, F dl, F ex, I mo, I mf] 65)).alloc (.cells #[Value.bool b, I n, I wa, I wb, I h, I t, Value.bool o] 75)).heap.size = w.heap.size + 1 + 1 by simp] at h0
  go_enter Try.func50, Try.ntmps50
  go_upto_region 1 with fail
  generalize World.alloc (World.alloc (World.alloc w _) _) _ = u at h0 ⊢
  generalize hgr : w.heap.size + 1 + 1 = gr at h0 ⊢
  generalize hgc : w.heap.size + 1 = gc at h0 ⊢
  generalize w.heap.size = gd at h0 ⊢
  clear hgr hgc
  have H0 := Lib.hid h0
  clear h0
  have k1_0 : u.cell? ⟨gc, 0, none⟩ = some (Value.bool b) := H0.out.cell 1 0 rfl rfl
  have k1_1 : u.cell? ⟨gc, 1, none⟩ = some (I n) := H0.out.cell 1 1 rfl rfl
  have k1_2 : u.cell? ⟨gc, 2, none⟩ = some (I wa) := H0.out.cell 1 2 rfl rfl
  have k1_3 : u.cell? ⟨gc, 3, none⟩ = some (I wb) := H0.out.cell 1 3 rfl rfl
  have k1_4 : u.cell? ⟨gc, 4, none⟩ = some (I h) := H0.out.cell 1 4 rfl rfl
  have k1_5 : u.cell? ⟨gc, 5, none⟩ = some (I t) := H0.out.cell 1 5 rfl rfl
  have k1_6 : u.cell? ⟨gc, 6, none⟩ = some (Value.bool o) := H0.out.cell 1 6 rfl rfl
  have k2_0 : u.cell? ⟨gd, 0, none⟩ = some (I ph) := H0.out.cell 2 0 rfl rfl
  have k2_1 : u.cell? ⟨gd, 1, none⟩ = some (F on) := H0.out.cell 2 1 rfl rfl
  have k2_2 : u.cell? ⟨gd, 2, none⟩ = some (F off) := H0.out.cell 2 2 rfl rfl
  have k2_3 : u.cell? ⟨gd, 3, none⟩ = some (F dl) := H0.out.cell 2 3 rfl rfl
  have k2_4 : u.cell? ⟨gd, 4, none⟩ = some (F ex) := H0.out.cell 2 4 rfl rfl
  have k2_5 : u.cell? ⟨gd, 5, none⟩ = some (I mo) := H0.out.cell 2 5 rfl rfl
  have k2_6 : u.cell? ⟨gd, 6, none⟩ = some (I mf) := H0.out.cell 2 6 rfl rfl
  go_wp2_with fail
  refine (Lvl.step_is HX.out HL.out _).mono ?_
  rintro e u1 ⟨rfl, b1⟩
  clear k1_0 k1_1 k1_2 k1_3 k1_4 k1_5 k1_6 k2_0 k2_1 k2_2 k2_3 k2_4 k2_5 k2_6
  go_upto_region 2 with fail
  have hn := (H0.out.step b1).alloc #[Value.bool b', I n'] 69
  generalize World.alloc u1 _ = v at hn ⊢
  generalize u1.heap.size = gl at hn ⊢
  have H1 := Lib.hid hn
  clear hn H0 b1
  have k0_0 : v.cell? ⟨gl, 0, none⟩ = some (Value.bool b') := H1.out.cell 0 0 rfl rfl
  have k0_1 : v.cell? ⟨gl, 1, none⟩ = some (I n') := H1.out.cell 0 1 rfl rfl
  go_wp2_with fail
  refine (Lvl.seen_is _).mono ?_
  rintro e v1 ⟨rfl, b1⟩
  rw [HS.out]
  have hn := H1.out.step b1
  have H2 := Lib.hid hn
  clear hn H1 b1 k0_0 k0_1
  go_upto_region 3 with fail
  have k0_0 : ∀ p : QB.By v1.heap.size v1, p.world.cell? ⟨gl, 0, none⟩ = some (Value.bool b') := fun p => (H2.out.by p).cell 0 0 rfl rfl
  have k0_1 : ∀ p : QB.By v1.heap.size v1, p.world.cell? ⟨gl, 1, none⟩ = some (I n') := fun p => (H2.out.by p).cell 0 1 rfl rfl
  have k2_0 : ∀ p : QB.By v1.heap.size v1, p.world.cell? ⟨gc, 0, none⟩ = some (Value.bool b) := fun p => (H2.out.by p).cell 2 0 rfl rfl
  have k2_1 : ∀ p : QB.By v1.heap.size v1, p.world.cell? ⟨gc, 1, none⟩ = some (I n) := fun p => (H2.out.by p).cell 2 1 rfl rfl
  have k2_2 : ∀ p : QB.By v1.heap.size v1, p.world.cell? ⟨gc, 2, none⟩ = some (I wa) := fun p => (H2.out.by p).cell 2 2 rfl rfl
  have k2_3 : ∀ p : QB.By v1.heap.size v1, p.world.cell? ⟨gc, 3, none⟩ = some (I wb) := fun p => (H2.out.by p).cell 2 3 rfl rfl
  have k2_4 : ∀ p : QB.By v1.heap.size v1, p.world.cell? ⟨gc, 4, none⟩ = some (I h) := fun p => (H2.out.by p).cell 2 4 rfl rfl
  have k2_5 : ∀ p : QB.By v1.heap.size v1, p.world.cell? ⟨gc, 5, none⟩ = some (I t) := fun p => (H2.out.by p).cell 2 5 rfl rfl
  have k2_6 : ∀ p : QB.By v1.heap.size v1, p.world.cell? ⟨gc, 6, none⟩ = some (Value.bool o) := fun p => (H2.out.by p).cell 2 6 rfl rfl
  have k3_0 : ∀ p : QB.By v1.heap.size v1, p.world.cell? ⟨gd, 0, none⟩ = some (I ph) := fun p => (H2.out.by p).cell 3 0 rfl rfl
  have k3_1 : ∀ p : QB.By v1.heap.size v1, p.world.cell? ⟨gd, 1, none⟩ = some (F on) := fun p => (H2.out.by p).cell 3 1 rfl rfl
  have k3_2 : ∀ p : QB.By v1.heap.size v1, p.world.cell? ⟨gd, 2, none⟩ = some (F off) := fun p => (H2.out.by p).cell 3 2 rfl rfl
  have k3_3 : ∀ p : QB.By v1.heap.size v1, p.world.cell? ⟨gd, 3, none⟩ = some (F dl) := fun p => (H2.out.by p).cell 3 3 rfl rfl
  have k3_4 : ∀ p : QB.By v1.heap.size v1, p.world.cell? ⟨gd, 4, none⟩ = some (F ex) := fun p => (H2.out.by p).cell 3 4 rfl rfl
  have k3_5 : ∀ p : QB.By v1.heap.size v1, p.world.cell? ⟨gd, 5, none⟩ = some (I mo) := fun p => (H2.out.by p).cell 3 5 rfl rfl
  have k3_6 : ∀ p : QB.By v1.heap.size v1, p.world.cell? ⟨gd, 6, none⟩ = some (I mf) := fun p => (H2.out.by p).cell 3 6 rfl rfl
  refine QT.region v1.heap.size 16 (by kernel_rfl) (by kernel_rfl) ?_
  simp only [List.take_succ_cons, List.take_zero]
  repeat (quiet_step (first
    | (go_at_call 75; exact QB.call_of (Nat.le_refl _) (fun b => Dig.step_is HW.out _))
    | (go_at_call 77; exact QB.call_of (Nat.le_refl _) (fun b => (ticks_is rfl _).mono fun e w' h => ⟨h.1, h.2 ▸ Below.refl _ _⟩))
    | (go_at_call 76; exact QB.call_of (Nat.le_refl _) (fun b => Dly.step_is HT.out _))))
  refine wpQuiet_nil ?_
  intro _ hw'
  obtain ⟨p, rfl⟩ := hw'
  have H3 := Lib.hid (H2.out.by p)
  clear k0_0 k0_1 k2_0 k2_1 k2_2 k2_3 k2_4 k2_5 k2_6 k3_0 k3_1 k3_2 k3_3 k3_4 k3_5 k3_6 H2
  generalize p.world = v2 at H3 ⊢
  simp only [List.drop_succ_cons, List.drop_zero]
  go_wp2_with (refine wpList_store_row rfl 75 _ _ rfl gr #[Value.bool b', I n', I wa', I wb', I h', I t', Value.bool o'] rfl rfl 75 _ (H3.out.at 1 rfl) infoC rfl (by simp [Value.oneCell']) ?_)
  have hput := H3.out.put 1 rfl #[Value.bool b', I n', I wa', I wb', I h', I t', Value.bool o']
  simp only [List.set_cons_succ, List.set_cons_zero] at hput
  generalize World.setRow v2 gr _ = v3 at hput ⊢
  have H4 := Lib.hid hput
  clear hput
  go_wp2_with fail
  (try simp only [Exit.inBlock, Exit.then])
  refine bodyPost_ret (v := .agg #[Value.bool b', I n', I wa', I wb', I h', I t', Value.bool o']) ?_ rfl ⟨rfl, H4.out.bel⟩
  exact results_cell_row rfl _ _ gr 75 _ (0, 0) _ rfl (H4.out.at 1 rfl) Try.underlying75 rfl infoC
theorem eight {p : Int} (h : 0 ≤ p) (h' : p < 8) : p = 0 ∨ p = 1 ∨ p = 2 ∨ p = 3 ∨ p = 4 ∨ p = 5 ∨ p = 6 ∨ p = 7 := by omega
theorem bit_any (p : Int) (w : World) : Calls Try.prog 59 #[.int .i64 p] w fun e w' => e = .returned (.int .i64 (SetM.bit p)) ∧ w = w' := by
  by_cases h1 : p < 0
  · have HB := Lib.hid (SetM.bit_out (p := p) (by omega))
    go_enter Try.func59, Try.ntmps59
    go_wp2
    go_ret
    exact ⟨ret_int (by rw [HB.out]; rfl), rfl⟩
  by_cases h2 : 8 ≤ p
  · have HB := Lib.hid (SetM.bit_out (p := p) (by omega))
    go_enter Try.func59, Try.ntmps59
    go_wp2
    go_ret
    exact ⟨ret_int (by rw [HB.out]; rfl), rfl⟩
  rcases eight (p := p) (by omega) (by omega) with rfl | rfl | rfl | rfl | rfl | rfl | rfl | rfl
  all_goals
    clear h1 h2
    go_enter Try.func59, Try.ntmps59
    go_wp2
    go_ret
    exact ⟨ret_int (by decide), rfl⟩
theorem calls_is {ph mo mf n wa wb h t : Int} {on off dl ex : Nat} {b o r : Bool} (hs : out ⟨ph, on, off, dl, ex, mo, mf⟩ ⟨⟨b, n⟩, ⟨wa, wb⟩, h, t, o⟩ = r) (w : World) :
    Calls Try.prog 58 #[.agg #[I ph, F on, F off, F dl, F ex, I mo, I mf], .agg #[Value.bool b, I n, I wa, I wb, I h, I t, Value.bool o]] w fun e w' => e = .returned (.bool r) ∧ Below w.heap.size w w' := by
  unfold out at hs
  dsimp only at hs
  have h0 := ((Blk.Bks.nil w).alloc #[I ph, F on, F off, F dl, F ex, I mo, I mf] 65).alloc #[Value.bool b, I n, I wa, I wb, I h, I t, Value.bool o] 75
  rw [show (w.alloc (.cells #[I ph, F on, F off, F dl, F ex, I mo, I mf] 65)).heap.size = w.heap.size + 1 by simp] at h0
  obtain ⟨fl, hf⟩ : ∃ r, failed ⟨b, n⟩ = r := ⟨_, rfl⟩
  obtain ⟨sk, hk⟩ : ∃ r, stk mo mf ⟨wa, wb⟩ = r := ⟨_, rfl⟩
  rw [hf, hk] at hs
  have HF := Lib.hid hf
  have HK := Lib.hid hk
  clear hf hk
  cases o
  · cases fl
    · go_enter Try.func58, Try.ntmps58
      go_upto_region 1 with fail
      generalize World.alloc (World.alloc w _) _ = u at h0 ⊢
      generalize hgc : w.heap.size + 1 = gc at h0 ⊢
      generalize w.heap.size = gd at h0 ⊢
      clear hgc
      have H0 := Lib.hid h0
      clear h0
      have k0_0 : u.cell? ⟨gc, 0, none⟩ = some (Value.bool b) := H0.out.cell 0 0 rfl rfl
      have k0_1 : u.cell? ⟨gc, 1, none⟩ = some (I n) := H0.out.cell 0 1 rfl rfl
      have k0_2 : u.cell? ⟨gc, 2, none⟩ = some (I wa) := H0.out.cell 0 2 rfl rfl
      have k0_3 : u.cell? ⟨gc, 3, none⟩ = some (I wb) := H0.out.cell 0 3 rfl rfl
      have k0_4 : u.cell? ⟨gc, 4, none⟩ = some (I h) := H0.out.cell 0 4 rfl rfl
      have k0_5 : u.cell? ⟨gc, 5, none⟩ = some (I t) := H0.out.cell 0 5 rfl rfl
      have k0_6 : u.cell? ⟨gc, 6, none⟩ = some (Value.bool false) := H0.out.cell 0 6 rfl rfl
      have k1_0 : u.cell? ⟨gd, 0, none⟩ = some (I ph) := H0.out.cell 1 0 rfl rfl
      have k1_1 : u.cell? ⟨gd, 1, none⟩ = some (F on) := H0.out.cell 1 1 rfl rfl
      have k1_2 : u.cell? ⟨gd, 2, none⟩ = some (F off) := H0.out.cell 1 2 rfl rfl
      have k1_3 : u.cell? ⟨gd, 3, none⟩ = some (F dl) := H0.out.cell 1 3 rfl rfl
      have k1_4 : u.cell? ⟨gd, 4, none⟩ = some (F ex) := H0.out.cell 1 4 rfl rfl
      have k1_5 : u.cell? ⟨gd, 5, none⟩ = some (I mo) := H0.out.cell 1 5 rfl rfl
      have k1_6 : u.cell? ⟨gd, 6, none⟩ = some (I mf) := H0.out.cell 1 6 rfl rfl
      go_wp2_with fail
      refine (Lvl.failed_is _).mono ?_
      rintro e u1 ⟨rfl, b1⟩
      rw [HF.out]
      have hn := H0.out.step b1
      have H1 := Lib.hid hn
      clear hn H0 b1 k0_0 k0_1 k0_2 k0_3 k0_4 k0_5 k0_6 k1_0 k1_1 k1_2 k1_3 k1_4 k1_5 k1_6
      have k0_0 : u1.cell? ⟨gc, 0, none⟩ = some (Value.bool b) := H1.out.cell 0 0 rfl rfl
      have k0_1 : u1.cell? ⟨gc, 1, none⟩ = some (I n) := H1.out.cell 0 1 rfl rfl
      have k0_2 : u1.cell? ⟨gc, 2, none⟩ = some (I wa) := H1.out.cell 0 2 rfl rfl
      have k0_3 : u1.cell? ⟨gc, 3, none⟩ = some (I wb) := H1.out.cell 0 3 rfl rfl
      have k0_4 : u1.cell? ⟨gc, 4, none⟩ = some (I h) := H1.out.cell 0 4 rfl rfl
      have k0_5 : u1.cell? ⟨gc, 5, none⟩ = some (I t) := H1.out.cell 0 5 rfl rfl
      have k0_6 : u1.cell? ⟨gc, 6, none⟩ = some (Value.bool false) := H1.out.cell 0 6 rfl rfl
      have k1_0 : u1.cell? ⟨gd, 0, none⟩ = some (I ph) := H1.out.cell 1 0 rfl rfl
      have k1_1 : u1.cell? ⟨gd, 1, none⟩ = some (F on) := H1.out.cell 1 1 rfl rfl
      have k1_2 : u1.cell? ⟨gd, 2, none⟩ = some (F off) := H1.out.cell 1 2 rfl rfl
      have k1_3 : u1.cell? ⟨gd, 3, none⟩ = some (F dl) := H1.out.cell 1 3 rfl rfl
      have k1_4 : u1.cell? ⟨gd, 4, none⟩ = some (F ex) := H1.out.cell 1 4 rfl rfl
      have k1_5 : u1.cell? ⟨gd, 5, none⟩ = some (I mo) := H1.out.cell 1 5 rfl rfl
      have k1_6 : u1.cell? ⟨gd, 6, none⟩ = some (I mf) := H1.out.cell 1 6 rfl rfl
      go_wp2_with fail
      refine (Dig.stuck_is HK.out _).mono ?_
      rintro e u2 ⟨rfl, b2⟩
      have hb := (H1.out.step b2).bel
      have HB := Lib.hid hb
      clear hb
      obtain rfl : sk = r := by simpa using hs
      go_wp2
      go_ret
      exact ⟨rfl, HB.out⟩
    · go_enter Try.func58, Try.ntmps58
      go_upto_region 1 with fail
      generalize World.alloc (World.alloc w _) _ = u at h0 ⊢
      generalize hgc : w.heap.size + 1 = gc at h0 ⊢
      generalize w.heap.size = gd at h0 ⊢
      clear hgc
      have H0 := Lib.hid h0
      clear h0
      have k0_0 : u.cell? ⟨gc, 0, none⟩ = some (Value.bool b) := H0.out.cell 0 0 rfl rfl
      have k0_1 : u.cell? ⟨gc, 1, none⟩ = some (I n) := H0.out.cell 0 1 rfl rfl
      have k0_2 : u.cell? ⟨gc, 2, none⟩ = some (I wa) := H0.out.cell 0 2 rfl rfl
      have k0_3 : u.cell? ⟨gc, 3, none⟩ = some (I wb) := H0.out.cell 0 3 rfl rfl
      have k0_4 : u.cell? ⟨gc, 4, none⟩ = some (I h) := H0.out.cell 0 4 rfl rfl
      have k0_5 : u.cell? ⟨gc, 5, none⟩ = some (I t) := H0.out.cell 0 5 rfl rfl
      have k0_6 : u.cell? ⟨gc, 6, none⟩ = some (Value.bool false) := H0.out.cell 0 6 rfl rfl
      have k1_0 : u.cell? ⟨gd, 0, none⟩ = some (I ph) := H0.out.cell 1 0 rfl rfl
      have k1_1 : u.cell? ⟨gd, 1, none⟩ = some (F on) := H0.out.cell 1 1 rfl rfl
      have k1_2 : u.cell? ⟨gd, 2, none⟩ = some (F off) := H0.out.cell 1 2 rfl rfl
      have k1_3 : u.cell? ⟨gd, 3, none⟩ = some (F dl) := H0.out.cell 1 3 rfl rfl
      have k1_4 : u.cell? ⟨gd, 4, none⟩ = some (F ex) := H0.out.cell 1 4 rfl rfl
      have k1_5 : u.cell? ⟨gd, 5, none⟩ = some (I mo) := H0.out.cell 1 5 rfl rfl
      have k1_6 : u.cell? ⟨gd, 6, none⟩ = some (I mf) := H0.out.cell 1 6 rfl rfl
      go_wp2_with fail
      refine (Lvl.failed_is _).mono ?_
      rintro e u1 ⟨rfl, b1⟩
      rw [HF.out]
      have hn := H0.out.step b1
      have H1 := Lib.hid hn
      clear hn H0 b1 k0_0 k0_1 k0_2 k0_3 k0_4 k0_5 k0_6 k1_0 k1_1 k1_2 k1_3 k1_4 k1_5 k1_6
      obtain rfl : true = r := by simpa using hs
      go_wp2
      go_ret
      exact ⟨rfl, H1.out.bel⟩
  · go_enter Try.func58, Try.ntmps58
    go_upto_region 1 with fail
    generalize World.alloc (World.alloc w _) _ = u at h0 ⊢
    generalize hgc : w.heap.size + 1 = gc at h0 ⊢
    generalize w.heap.size = gd at h0 ⊢
    clear hgc
    have H0 := Lib.hid h0
    clear h0
    have k0_0 : u.cell? ⟨gc, 0, none⟩ = some (Value.bool b) := H0.out.cell 0 0 rfl rfl
    have k0_1 : u.cell? ⟨gc, 1, none⟩ = some (I n) := H0.out.cell 0 1 rfl rfl
    have k0_2 : u.cell? ⟨gc, 2, none⟩ = some (I wa) := H0.out.cell 0 2 rfl rfl
    have k0_3 : u.cell? ⟨gc, 3, none⟩ = some (I wb) := H0.out.cell 0 3 rfl rfl
    have k0_4 : u.cell? ⟨gc, 4, none⟩ = some (I h) := H0.out.cell 0 4 rfl rfl
    have k0_5 : u.cell? ⟨gc, 5, none⟩ = some (I t) := H0.out.cell 0 5 rfl rfl
    have k0_6 : u.cell? ⟨gc, 6, none⟩ = some (Value.bool true) := H0.out.cell 0 6 rfl rfl
    have k1_0 : u.cell? ⟨gd, 0, none⟩ = some (I ph) := H0.out.cell 1 0 rfl rfl
    have k1_1 : u.cell? ⟨gd, 1, none⟩ = some (F on) := H0.out.cell 1 1 rfl rfl
    have k1_2 : u.cell? ⟨gd, 2, none⟩ = some (F off) := H0.out.cell 1 2 rfl rfl
    have k1_3 : u.cell? ⟨gd, 3, none⟩ = some (F dl) := H0.out.cell 1 3 rfl rfl
    have k1_4 : u.cell? ⟨gd, 4, none⟩ = some (F ex) := H0.out.cell 1 4 rfl rfl
    have k1_5 : u.cell? ⟨gd, 5, none⟩ = some (I mo) := H0.out.cell 1 5 rfl rfl
    have k1_6 : u.cell? ⟨gd, 6, none⟩ = some (I mf) := H0.out.cell 1 6 rfl rfl
    obtain rfl : true = r := by simpa using hs
    go_wp2
    go_ret
    exact ⟨rfl, H0.out.bel⟩
end Dtc
namespace Copy
open Go Go.RowKit
open Tab
section
variable {P : Program}
/-- make([]T, n): a block of n times as many cells as an element has. -/
theorem wpList_make_rows {ops : Array Oper} {rest : List Oper} {o : Oper} {a : Act} {w : World} {Q : Exit → Act → World → Prop} (hg : o.guard = none) (l c : Operand) (t e : TypeId) (hop : o.op = Op.makeSlice t l c) (hu : P.underlying t = some (.slice e))
    (z : Value) (size bytes : Nat) (hi : (P.info? e).map (fun i => (i.zero, i.size, i.bytes)) = some (some z, size, bytes)) (n : Nat) (hl : a.eval l = .int .i64 (n : Int)) (hc : a.eval c = .int .i64 (n : Int)) (hn : n ≤ 1000) (hb : bytes ≤ 100000)
    (h : ∀ w' cur, w'.heap[w.heap.size]? = some (.cells cur e (0, 0)) → cur.size = n * size → Below w.heap.size w w' → w'.heap.size = w.heap.size + 1 → wpList P ops Q rest (a.put o.dst (.slice (some ⟨w.heap.size, 0, none⟩) n n)) w') : wpList P ops Q (o :: rest) a w := by
  obtain ⟨i, hi0, hz, hs, hby⟩ := info_parts hi
  refine wpList_plain hg fun K hK => ?_
  have hle : (i.bytes : Int) * (n : Int) ≤ 281474976710656 := by
    have h1 : i.bytes * n ≤ 100000 * 1000 := Nat.mul_le_mul (by omega) hn
    have h2 : (i.bytes : Int) * (n : Int) = ((i.bytes * n : Nat) : Int) := by simp
    omega
  have hrun := run_make (P := P) w t e i z hu hi0 hz .i64 .i64 (n : Int) (n : Int) (by omega) (by omega) hle (by omega)
  unfold Oper.wp
  simp only [execOp, hop, hl, hc, Sem.run_bind, hrun, Result.andThen_ok]
  refine hK _ _ (h _ _ (heap_alloc_new _ _) ?_ ((Below.refl _ _).alloc (Nat.le_refl _) _) (by simp))
  rw [size_madeCells, hs]; simp
end
/-! ### a list's elements as one row -/
section
variable {α : Type} {n : Nat} {enc : α → List Value}
theorem flat_at (he : ∀ v, (enc v).length = n) : ∀ (l : List α) (i : Nat) (v : α) (j : Nat) (u : Value), l[i]? = some v → (enc v)[j]? = some u → (l.flatMap enc)[i * n + j]? = some u
  | x :: l, 0, v, j, u, h, hu => by
    obtain rfl := Option.some.inj h
    rw [List.flatMap_cons, Nat.zero_mul, Nat.zero_add, List.getElem?_append_left (List.getElem?_eq_some_iff.1 hu).1]; exact hu
  | x :: l, i + 1, v, j, u, h, hu => by
    have := flat_at he l i v j u (by simpa using h) hu
    rw [List.flatMap_cons, List.getElem?_append_right (by rw [he, Nat.add_mul]; omega), he, Nat.add_mul, Nat.one_mul, show i * n + n + j - n = i * n + j by omega]
    exact this
/-- A block that holds just a list's elements, as a slice over it. -/
theorem row_of_block (he : ∀ v, (enc v).length = n) {w : World} {g : Nat} {t : TypeId} {fr : Nat × Nat} (l : List α) (hg : w.heap[g]? = some (.cells (l.flatMap enc).toArray t fr)) (hl : l.length ≤ maxLen) : RowOf n enc w ⟨some ⟨g, 0, none⟩, l.length⟩ l := by
  refine .inr ⟨_, rfl, Nat.le_refl _, hl, fun i v hv j u hu => ?_⟩
  rw [add_two, Addr.add_mid, cell_of_row _ _ _ _ _ _ hg, Nat.zero_add]
  simpa using flat_at he l i v j u hv hu
end
end Copy
namespace Dtc
open Go.ChangeShapes Go.WideShapes Go.ChangeAt Go.RowKit
open Tab Flat TabArg Copy Go.Proofs.Fl
open Lvl (Lv stp failed)
open Dig (Wd wat stk)
open Dly (Tm tmr)
open Secs (quo_holds ret_int)
/-- A slice of samples. -/
def FltRow (w : World) (s : Sl) (xs : List Nat) : Prop := RowOf 1 (fun x : Nat => [F x]) w s xs ∧ ∀ x ∈ xs, x < 18446744073709551616
theorem FltRow.below {w w' : World} {s : Sl} {xs : List Nat} (h : FltRow w s xs) (hb : Below w.heap.size w w') : FltRow w' s xs := ⟨h.1.below hb, h.2⟩
/-- All channels, one tick on. -/
def dts (ds : List Det) (l : List Ch) (xs : List Nat) : List Ch := (List.range ds.length).map fun i => chn (ds.getD i default) (l.getD i zCh) (xs.getD i NAN)
theorem dts_len (ds : List Det) (l : List Ch) (xs : List Nat) : (dts ds l xs).length = ds.length := by simp [dts]
theorem dts_at {ds : List Det} {l : List Ch} {xs : List Nat} {i : Nat} {d : Det} (h : ds[i]? = some d) : (dts ds l xs)[i]? = some (chn d (l.getD i zCh) (xs.getD i NAN)) := by
  have hi := (List.getElem?_eq_some_iff.1 h).1
  unfold dts
  rw [List.getElem?_map, List.getElem?_range hi]
  show some (chn (ds.getD i default) _ _) = _
  rw [List.getD_eq_getElem?_getD, h]
  rfl
theorem fresh {w u v : World} {L : List Blk.Bl} {cs : Array Value} {t : TypeId} (h : Blk.Bks w L u) (hg : v.heap[u.heap.size]? = some (.cells cs t (0, 0))) (hb : Below u.heap.size u v) : Blk.Bks w ((u.heap.size, cs, t) :: L) v := by
  have h2 := h.step hb
  refine ⟨h2.bel, fun x hx => ?_, fun x hx => ?_, ?_⟩
  · rcases List.mem_cons.1 hx with rfl | hx
    · exact h.bel.size
    · exact h2.low x hx
  · rcases List.mem_cons.1 hx with rfl | hx
    · exact hg
    · exact h2.blk x hx
  · rw [List.map_cons, List.nodup_cons]
    refine ⟨fun hm => ?_, h.apart⟩
    obtain ⟨x, hx, e⟩ := List.mem_map.1 hm
    have := h.lt hx
    simp only at e
    omega
theorem Ch.len (c : Ch) : c.cells.length = 7 := rfl
/-- The block of the channels: those up to q are done. -/
def Done (D : List Ch) (n q : Nat) (C : Array Value) : Prop := C.size = n * 7 ∧ C.toList.take (q * 7) = (D.take q).flatMap Ch.cells
theorem Done.next {D : List Ch} {n q : Nat} {C : Array Value} {c : Ch} (h : Done D n q C) (hq : q < n) (hD : D.length = n) (hc : D[q]? = some c) : Done D n (q + 1) (C.toList.take (q * 7) ++ c.cells.toArray.toList ++ C.toList.drop (q * 7 + c.cells.toArray.size)).toArray := by
  have h1 : (C.toList.take (q * 7)).length = q * 7 := by rw [List.length_take, Array.length_toList, h.1]; omega
  refine ⟨?_, ?_⟩
  · simp [h1, h.1, Ch.len]; omega
  · rw [show (q + 1) * 7 = q * 7 + 7 by omega, List.take_add]
    have e0 : (C.toList.take (q * 7) ++ c.cells.toArray.toList ++ C.toList.drop (q * 7 + c.cells.toArray.size)).toArray.toList = C.toList.take (q * 7) ++ (c.cells ++ C.toList.drop (q * 7 + 7)) := by simp [Ch.len]
    rw [e0, List.take_left' h1, List.drop_left' h1, List.take_left' (Ch.len c), h.2, List.take_add_one, hc]
    simp
theorem Done.full {D : List Ch} {n : Nat} {C : Array Value} (h : Done D n n C) (hD : D.length = n) : C = (D.flatMap Ch.cells).toArray := by
  have := h.2
  rw [← hD, List.take_length, List.take_of_length_le (by rw [Array.length_toList, h.1]; omega)] at this
  rw [← this]
/-- A whole struct into the middle of a block known whole. -/
theorem wpList_store_mid {P : Program} {ops : Array Oper} {rest : List Oper} {o : Oper} {a : Act} {w : World} {Q : Exit → Act → World → Prop} (hgd : o.guard = none) (ty : TypeId) (x y : Operand) (ho : o.op = .store ty x y) (g off : Nat) (cells : Array Value) (hx : a.eval x = .pointer (some ⟨g, off, none⟩)) (hy : a.eval y = .agg cells)
    (t : TypeId) (cur : Array Value) (hg : w.heap[g]? = some (.cells cur t (0, 0))) (hi : (P.info? ty).map (·.size) = some cells.size) (hl : off + cells.size ≤ cur.size) (h1 : cells.all (·.oneCell') = true)
    (h : wpList P ops Q rest (a.put o.dst undef) (w.setRow g (cur.toList.take off ++ cells.toList ++ cur.toList.drop (off + cells.size)).toArray)) : wpList P ops Q (o :: rest) a w :=
  wpList_plain hgd fun _ hK => by
    unfold Oper.wp execOp
    simp only [ho, hx, hy, Sem.run_bind, Row.run_storeAt_at w g off t ty cur cells hg hi hl h1, Result.andThen_ok, Sem.run_pure]
    exact hK _ _ h
theorem infoCz : (Try.prog.info? 75).map (fun i => (i.zero, i.size, i.bytes)) = some (some (.agg #[.bool false, I 0, I 0, I 0, I 0, I 0, .bool false]), 7, 56) := by kernel_rfl
theorem infoT : (Try.prog.info? 31).map (·.size) = some 131 := by kernel_rfl
theorem step_own {T : Tab} {hd : Hd} {w : World} (ht : IsTab w hd T) (few : T.dets.length ≤ 1000) {a : Option Addr} {cap : Nat} {l : List Ch} (hl : RowOf 7 Ch.cells w ⟨a, cap⟩ l) {xa : Option Addr} {cap2 : Nat} {xs : List Nat} (hx : FltRow w ⟨xa, cap2⟩ xs) :
    Calls Try.prog 25 #[.agg (T.cells hd).toArray, .slice a l.length cap, .slice xa xs.length cap2] w fun e w' => ∃ s : Sl, e = .returned (s.val T.dets.length) ∧ RowOf 7 Ch.cells w' s (dts T.dets l xs) ∧ (∀ x, s.a = some x → w.heap.size ≤ x.block) ∧ Below w.heap.size w w' := by
  have CK := Lib.hid (cells_ok ht)
  have HR := Lib.hid ht.dets
  have HL := Lib.hid hl
  have HX := Lib.hid hx
  have hxl := hx.1.len
  obtain ⟨j0, hj, hy0, hy1, hy2⟩ := info_parts infoCz
  generalize hD : dts T.dets l xs = D
  have DL : Hid (D.length = T.dets.length) := Lib.hid (by rw [← hD]; exact dts_len _ _ _)
  have DA : Hid (∀ (i : Nat) (d : Det), T.dets[i]? = some d → D[i]? = some (chn d (l.getD i zCh) (xs.getD i NAN))) := Lib.hid (fun i d h => by rw [← hD]; exact dts_at h)
  clear ht hl hx hD
  have q113 := CK.out.d
  generalize (T.cells hd).toArray = tc at *
  obtain ⟨sg, ⟨da, dcap⟩, sr, sb⟩ := hd
  generalize T.dets = ds at *
  generalize hn : ds.length = n at *
  have HN := Lib.hid hn
  generalize hn1 : l.length = n1 at *
  have HN1 := Lib.hid hn1
  generalize hn2 : xs.length = n2 at *
  have HN2 := Lib.hid hn2
  unfold maxLen at hxl
  obtain ⟨hx1, hx2⟩ := hxl
  clear hn hn1 hn2 CK
  have h0 := (Blk.Bks.nil w).alloc tc 31
  go_enter Try.func25, Try.ntmps25
  go_upto_region 1 with fail
  generalize World.alloc w _ = u at h0 ⊢
  generalize w.heap.size = gt at h0 ⊢
  have H0 := Lib.hid h0
  clear h0
  have k113 : u.cell? ⟨gt, 113, none⟩ = some (.slice da n dcap) := H0.out.cell 0 113 rfl q113
  go_wp2_with (at_make; refine Copy.wpList_make_rows rfl _ _ 49 75 rfl Try.underlying49 (.agg #[.bool false, I 0, I 0, I 0, I 0, I 0, .bool false]) 7 56 infoCz n rfl rfl few (by decide) ?_)
  intro v C0 hC hCs hbv hvs
  have hb := fresh H0.out hC hbv
  generalize u.heap.size = gn at hb hC hbv hvs ⊢
  have HB0 := Lib.hid hb
  clear hC hbv hvs hb H0 k113
  have k113 : v.cell? ⟨gt, 113, none⟩ = some (.slice da n dcap) := HB0.out.cell 1 113 rfl q113
  go_wp2_with fail
  go_loopw [17] (fun i wr => ∃ (q : Nat) (C : Array Value), q ≤ n ∧ i = .int .i64 q ∧ Done D n q C ∧ Blk.Bks w [(gn, C, 75), (gt, tc, 31)] wr) (fun i _ => n - (intOf i).toNat)
  case atStart => exact ⟨0, C0, by omega, rfl, ⟨hCs, by simp⟩, HB0.out⟩
  case round =>
    clear hCs HB0 k113
    obtain ⟨q, C, hq, rfl, hdone, hB⟩ := hrel
    have HB := Lib.hid hB
    have HDN := Lib.hid hdone
    clear hB hdone
    by_cases hlt : q < n
    · obtain ⟨d, hd⟩ : ∃ d, ds[q]? = some d := ⟨_, List.getElem?_eq_getElem (by rw [HN.out]; exact hlt)⟩
      obtain ⟨y, hy, hly⟩ := HR.out.at hd
      obtain rfl : da = some y := hy
      have HCQ := Lib.hid (DA.out q d hd)
      clear DA hd
      obtain ⟨ph, on, off, dl, ex, mo, mf⟩ := d
      have HLY := Lib.hid (Lies.below hly HB.out.bel)
      clear hly
      obtain ⟨⟨⟨b, n'⟩, ⟨wa, wb⟩, h, t, o⟩, hc0⟩ : ∃ c, l.getD q zCh = c := ⟨_, rfl⟩
      obtain ⟨x, hxq⟩ : ∃ x, xs.getD q NAN = x := ⟨_, rfl⟩
      have hxw : x < 18446744073709551616 := by
        rw [← hxq, List.getD_eq_getElem?_getD]
        cases e : xs[q]? with
        | none => show NAN < _; decide
        | some z => exact HX.out.2 z (List.mem_of_getElem? e)
      rw [hc0, hxq] at HCQ
      obtain ⟨⟨⟨b', n2'⟩, ⟨wa', wb'⟩, h', t', o'⟩, hs⟩ : ∃ c, chn ⟨ph, on, off, dl, ex, mo, mf⟩ ⟨⟨b, n'⟩, ⟨wa, wb⟩, h, t, o⟩ x = c := ⟨_, rfl⟩
      rw [hs] at HCQ
      have HC0 := Lib.hid hc0
      have HXQ := Lib.hid hxq
      have HXW := Lib.hid hxw
      have HS := Lib.hid hs
      clear hc0 hxq hxw hs
      go_upto_region 5 with (first | (refine Row.wpList_load_lies rfl 65 _ rfl (y.add (q * 7)) rfl (Det.cells ⟨ph, on, off, dl, ex, mo, mf⟩) _ HLY.out Try.underlying65 rfl infoD ?_) | (refine Row.wpList_store_new rfl 65 _ _ rfl _ _ #[I ph, F on, F off, F dl, F ex, I mo, I mf] rfl rfl rfl infoD rfl (by simp [Value.oneCell']) ?_))
      have hb := HB.out.alloc #[I ph, F on, F off, F dl, F ex, I mo, I mf] 65
      generalize World.alloc wr _ = u1 at hb ⊢
      generalize wr.heap.size = gd at hb ⊢
      have HB1 := Lib.hid hb
      clear hb HLY
      rcases Nat.lt_or_ge q n2 with hq2 | hq2
      · obtain ⟨z, hz, hzl⟩ := HX.out.1.at (i := q) (v := x) (by rw [← HXQ.out, List.getD_eq_getElem?_getD, List.getElem?_eq_getElem (by rw [HN2.out]; exact hq2)]; rfl)
        obtain rfl : xa = some z := hz
        have HZ : Hid (∀ p : QB.By u1.heap.size u1, p.world.cell? (z.add q) = some (F x)) := Lib.hid (fun p => Arg.one_below hzl (HB1.out.by p).bel)
        clear hzl
        have k0_0 : ∀ p : QB.By u1.heap.size u1, p.world.cell? ⟨gd, 0, none⟩ = some (I ph) := fun p => (HB1.out.by p).cell 0 0 rfl rfl
        have k0_1 : ∀ p : QB.By u1.heap.size u1, p.world.cell? ⟨gd, 1, none⟩ = some (F on) := fun p => (HB1.out.by p).cell 0 1 rfl rfl
        have k0_2 : ∀ p : QB.By u1.heap.size u1, p.world.cell? ⟨gd, 2, none⟩ = some (F off) := fun p => (HB1.out.by p).cell 0 2 rfl rfl
        have k0_3 : ∀ p : QB.By u1.heap.size u1, p.world.cell? ⟨gd, 3, none⟩ = some (F dl) := fun p => (HB1.out.by p).cell 0 3 rfl rfl
        have k0_4 : ∀ p : QB.By u1.heap.size u1, p.world.cell? ⟨gd, 4, none⟩ = some (F ex) := fun p => (HB1.out.by p).cell 0 4 rfl rfl
        have k0_5 : ∀ p : QB.By u1.heap.size u1, p.world.cell? ⟨gd, 5, none⟩ = some (I mo) := fun p => (HB1.out.by p).cell 0 5 rfl rfl
        have k0_6 : ∀ p : QB.By u1.heap.size u1, p.world.cell? ⟨gd, 6, none⟩ = some (I mf) := fun p => (HB1.out.by p).cell 0 6 rfl rfl
        refine QT.region u1.heap.size 13 (by kernel_rfl) (by kernel_rfl) ?_
        simp only [List.take_succ_cons, List.take_zero]
        repeat (quiet_step (first
          | (go_at_call 51; exact QB.call_of (Nat.le_refl _) (fun b => elc_is (HL.out.below (HB1.out.bel.trans (b.mono HB1.out.bel.size))) HN1.out HC0.out))
          | (go_at_call 31; exact QB.call_of (Nat.le_refl _) (fun b => (nan_any _).mono fun e w' h => ⟨h.1, h.2 ▸ Below.refl _ _⟩))
          | (go_at_call 52; exact QB.call_of (Nat.le_refl _) (fun b => (elf_in hq2 hx1 (show cap2 ≤ maxLen by unfold maxLen; omega) (HZ.out _) _).mono fun e w' h => ⟨h.1, h.2 ▸ Below.refl _ _⟩))
          | (go_at_call 50; exact QB.call_of (Nat.le_refl _) (fun b => stepOne_is HXW.out HS.out _))))
        refine wpQuiet_nil ?_
        intro _ hw'
        obtain ⟨p, rfl⟩ := hw'
        have HB2 := Lib.hid (HB1.out.by p)
        clear HB1 k0_0 k0_1 k0_2 k0_3 k0_4 k0_5 k0_6
        generalize p.world = u2 at HB2 ⊢
        simp only [List.drop_succ_cons, List.drop_zero]
        have hsz : q * 7 + (#[Value.bool b', I n2', I wa', I wb', I h', I t', Value.bool o']).size ≤ C.size := by rw [HDN.out.1]; show q * 7 + 7 ≤ n * 7; omega
        have hput := HB2.out.put 1 rfl (C.toList.take (q * 7) ++ (#[Value.bool b', I n2', I wa', I wb', I h', I t', Value.bool o']).toList ++ C.toList.drop (q * 7 + (#[Value.bool b', I n2', I wa', I wb', I h', I t', Value.bool o']).size)).toArray
        simp only [List.set_cons_succ, List.set_cons_zero] at hput
        have HDN2 := Lib.hid (HDN.out.next (c := ⟨⟨b', n2'⟩, ⟨wa', wb'⟩, h', t', o'⟩) hlt DL.out HCQ.out)
        refine wpList_store_mid rfl 75 _ _ rfl gn (q * 7) #[Value.bool b', I n2', I wa', I wb', I h', I t', Value.bool o'] rfl rfl 75 C (HB2.out.at 1 rfl) infoC hsz (by simp [Value.oneCell']) ?_
        generalize World.setRow u2 gn _ = u3 at hput ⊢
        have HDN2 : Hid (Done D n (q + 1) (C.toList.take (q * 7) ++ (#[Value.bool b', I n2', I wa', I wb', I h', I t', Value.bool o']).toList ++ C.toList.drop (q * 7 + (#[Value.bool b', I n2', I wa', I wb', I h', I t', Value.bool o']).size)).toArray) := HDN2
        generalize (C.toList.take (q * 7) ++ (#[Value.bool b', I n2', I wa', I wb', I h', I t', Value.bool o']).toList ++ C.toList.drop (q * 7 + (#[Value.bool b', I n2', I wa', I wb', I h', I t', Value.bool o']).size)).toArray = C2 at hput HDN2
        have HB3 := Lib.hid hput.drop
        clear hput hsz HB2 HDN
        go_wp2
        go_roundw
        case rel => exact ⟨q + 1, C2, by omega, by go_num, HDN2.out, HB3.out⟩
        case measure => simp [intOf]; omega
      · obtain rfl : NAN = x := by rw [← HXQ.out, List.getD_eq_getElem?_getD, List.getElem?_eq_none (by rw [HN2.out]; exact hq2)]; rfl
        have k0_0 : ∀ p : QB.By u1.heap.size u1, p.world.cell? ⟨gd, 0, none⟩ = some (I ph) := fun p => (HB1.out.by p).cell 0 0 rfl rfl
        have k0_1 : ∀ p : QB.By u1.heap.size u1, p.world.cell? ⟨gd, 1, none⟩ = some (F on) := fun p => (HB1.out.by p).cell 0 1 rfl rfl
        have k0_2 : ∀ p : QB.By u1.heap.size u1, p.world.cell? ⟨gd, 2, none⟩ = some (F off) := fun p => (HB1.out.by p).cell 0 2 rfl rfl
        have k0_3 : ∀ p : QB.By u1.heap.size u1, p.world.cell? ⟨gd, 3, none⟩ = some (F dl) := fun p => (HB1.out.by p).cell 0 3 rfl rfl
        have k0_4 : ∀ p : QB.By u1.heap.size u1, p.world.cell? ⟨gd, 4, none⟩ = some (F ex) := fun p => (HB1.out.by p).cell 0 4 rfl rfl
        have k0_5 : ∀ p : QB.By u1.heap.size u1, p.world.cell? ⟨gd, 5, none⟩ = some (I mo) := fun p => (HB1.out.by p).cell 0 5 rfl rfl
        have k0_6 : ∀ p : QB.By u1.heap.size u1, p.world.cell? ⟨gd, 6, none⟩ = some (I mf) := fun p => (HB1.out.by p).cell 0 6 rfl rfl
        refine QT.region u1.heap.size 13 (by kernel_rfl) (by kernel_rfl) ?_
        simp only [List.take_succ_cons, List.take_zero]
        repeat (quiet_step (first
          | (go_at_call 51; exact QB.call_of (Nat.le_refl _) (fun b => elc_is (HL.out.below (HB1.out.bel.trans (b.mono HB1.out.bel.size))) HN1.out HC0.out))
          | (go_at_call 31; exact QB.call_of (Nat.le_refl _) (fun b => (nan_any _).mono fun e w' h => ⟨h.1, h.2 ▸ Below.refl _ _⟩))
          | (go_at_call 52; exact QB.call_of (Nat.le_refl _) (fun b => (elf_out hq2 _).mono fun e w' h => ⟨h.1, h.2 ▸ Below.refl _ _⟩))
          | (go_at_call 50; exact QB.call_of (Nat.le_refl _) (fun b => stepOne_is HXW.out HS.out _))))
        refine wpQuiet_nil ?_
        intro _ hw'
        obtain ⟨p, rfl⟩ := hw'
        have HB2 := Lib.hid (HB1.out.by p)
        clear HB1 k0_0 k0_1 k0_2 k0_3 k0_4 k0_5 k0_6
        generalize p.world = u2 at HB2 ⊢
        simp only [List.drop_succ_cons, List.drop_zero]
        have hsz : q * 7 + (#[Value.bool b', I n2', I wa', I wb', I h', I t', Value.bool o']).size ≤ C.size := by rw [HDN.out.1]; show q * 7 + 7 ≤ n * 7; omega
        have hput := HB2.out.put 1 rfl (C.toList.take (q * 7) ++ (#[Value.bool b', I n2', I wa', I wb', I h', I t', Value.bool o']).toList ++ C.toList.drop (q * 7 + (#[Value.bool b', I n2', I wa', I wb', I h', I t', Value.bool o']).size)).toArray
        simp only [List.set_cons_succ, List.set_cons_zero] at hput
        have HDN2 := Lib.hid (HDN.out.next (c := ⟨⟨b', n2'⟩, ⟨wa', wb'⟩, h', t', o'⟩) hlt DL.out HCQ.out)
        refine wpList_store_mid rfl 75 _ _ rfl gn (q * 7) #[Value.bool b', I n2', I wa', I wb', I h', I t', Value.bool o'] rfl rfl 75 C (HB2.out.at 1 rfl) infoC hsz (by simp [Value.oneCell']) ?_
        generalize World.setRow u2 gn _ = u3 at hput ⊢
        have HDN2 : Hid (Done D n (q + 1) (C.toList.take (q * 7) ++ (#[Value.bool b', I n2', I wa', I wb', I h', I t', Value.bool o']).toList ++ C.toList.drop (q * 7 + (#[Value.bool b', I n2', I wa', I wb', I h', I t', Value.bool o']).size)).toArray) := HDN2
        generalize (C.toList.take (q * 7) ++ (#[Value.bool b', I n2', I wa', I wb', I h', I t', Value.bool o']).toList ++ C.toList.drop (q * 7 + (#[Value.bool b', I n2', I wa', I wb', I h', I t', Value.bool o']).size)).toArray = C2 at hput HDN2
        have HB3 := Lib.hid hput.drop
        clear hput hsz HB2 HDN
        go_wp2
        go_roundw
        case rel => exact ⟨q + 1, C2, by omega, by go_num, HDN2.out, HB3.out⟩
        case measure => simp [intOf]; omega
    · obtain rfl : q = n := by omega
      have hfin := HDN.out.full DL.out
      subst hfin
      have hrow := Copy.row_of_block Ch.len D (HB.out.at 0 rfl) (by rw [DL.out]; unfold maxLen; omega)
      rw [DL.out] at hrow
      have HROW := Lib.hid hrow
      clear hrow
      go_wp2
      go_ret
      exact ⟨⟨_, _⟩, rfl, HROW.out, fun x hx => by simp at hx; subst hx; exact HB.out.ge 0 rfl, HB.out.bel⟩
theorem step_any {T : Tab} {hd : Hd} {w : World} (ht : IsTab w hd T) (few : T.dets.length ≤ 1000) {a : Option Addr} {cap : Nat} {l : List Ch} (hl : RowOf 7 Ch.cells w ⟨a, cap⟩ l) {xa : Option Addr} {cap2 : Nat} {xs : List Nat} (hx : FltRow w ⟨xa, cap2⟩ xs) :
    Calls Try.prog 25 #[.agg (T.cells hd).toArray, .slice a l.length cap, .slice xa xs.length cap2] w fun e w' => ∃ s : Sl, e = .returned (s.val T.dets.length) ∧ RowOf 7 Ch.cells w' s (dts T.dets l xs) ∧ Below w.heap.size w w' :=
  (step_own ht few hl hx).mono fun e w' ⟨s, h1, h2, _, h4⟩ => ⟨s, h1, h2, h4⟩
end Dtc
end Go.Proofs.Ytneaomdgjlmleaa
