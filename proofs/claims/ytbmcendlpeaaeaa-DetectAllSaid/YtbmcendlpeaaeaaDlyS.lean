/- Package delay: contracts of Step, of the document's Timer, and of the examples. -/
import Derived.Test.YtbmcendlpeaaeaaDly
namespace Go.Proofs.Ytbmcendlpeaaeaa.Dly
open Go.ChangeShapes Go.WideShapes Go.ChangeAt Go.RowKit
open Tab Flat TabArg
open Cnt (more ct)
set_option linter.unusedVariables false
set_option linter.unusedSimpArgs false
set_option maxRecDepth 100000
set_option maxHeartbeats 8000000 in
theorem step_is {d e h t h' t' : Int} {o i o' : Bool} (hs : tmr d e ⟨h, t, o⟩ i = ⟨h', t', o'⟩) (w : World) : Calls Try.prog 46 #[.int .i64 d, .int .i64 e, .agg #[I h, I t, .bool o], .bool i] w fun e w' => e = .returned (.agg #[I h', I t', .bool o']) ∧ Below w.heap.size w w' := by
  obtain ⟨cd, hd⟩ : ∃ c, ct d 0 9999 = c := ⟨_, rfl⟩
  obtain ⟨ce, he⟩ : ∃ c, ct e 0 9999 = c := ⟨_, rfl⟩
  obtain ⟨c, hc⟩ : ∃ c, ct t 0 9999 = c := ⟨_, rfl⟩
  obtain ⟨mh, hm⟩ : ∃ c, more h = c := ⟨_, rfl⟩
  obtain ⟨ft, fo, hf⟩ := @fd_held c o
  have d0 : 0 ≤ cd := by rw [← hd]; exact Cnt.ct_lo (by decide)
  have c0 : 0 ≤ c := by rw [← hc]; exact Cnt.ct_lo (by decide)
  have c1 : c ≤ 9999 := by rw [← hc]; exact Cnt.ct_hi (by decide)
  have m0 : 1 ≤ mh := by rw [← hm]; exact Cnt.more_lo h
  have HD := Lib.hid hd
  have HE := Lib.hid he
  have HC := Lib.hid hc
  have HM := Lib.hid hm
  have HF := Lib.hid hf
  have HS := Lib.hid hs
  clear hd he hc hm hf hs
  have h0 := ((Blk.Bks.nil w).alloc #[I h, I t, .bool o] 61).alloc #[I 0, I 0, .bool false] 61
  rw [show (w.alloc (.cells #[I h, I t, .bool o] 61)).heap.size = w.heap.size + 1 by simp] at h0
  cases i
  · have hx := tmr_lo (d := d) (e := e) (h := h) (t := t) (hh := 0) (o := o) (i := false) rfl (by rw [HD.out]; omega) (by rw [HC.out]; exact HF.out)
    rw [HS.out] at hx
    injection hx with e1 e2 e3
    have HR : Hid (Ending.returned (Value.agg #[I 0, I ft, .bool fo]) = Ending.returned (Value.agg #[I h', I t', .bool o'])) := Lib.hid (by rw [← e1, ← e2, ← e3])
    clear e1 e2 e3 HS
    go_enter Try.func46, Try.ntmps46
    go_upto_region 1 with fail
    generalize World.alloc (World.alloc w _) _ = u at h0 ⊢
    generalize hgz : w.heap.size + 1 = gz at h0 ⊢
    generalize w.heap.size = gs at h0 ⊢
    clear hgz
    have H0 := Lib.hid h0
    clear h0
    have k1_0 : u.cell? ⟨gs, 0, none⟩ = some (I h) := H0.out.cell 1 0 rfl rfl
    have k1_1 : u.cell? ⟨gs, 1, none⟩ = some (I t) := H0.out.cell 1 1 rfl rfl
    have k1_2 : u.cell? ⟨gs, 2, none⟩ = some (Value.bool o) := H0.out.cell 1 2 rfl rfl
    go_upto_region 6 with (first | (go_at_call 66; with_reducible refine (limit_is HD.out _).mono ?_; rintro e w' ⟨rfl, rfl⟩) | (go_at_call 66; with_reducible refine (limit_is HE.out _).mono ?_; rintro e w' ⟨rfl, rfl⟩) | (go_at_call 65; with_reducible refine (oneMore_is HM.out _).mono ?_; rintro e w' ⟨rfl, rfl⟩))
    go_wp2_with fail
    refine (fade_as HC.out HF.out _).mono ?_
    rintro e u1 ⟨rfl, b1⟩
    clear k1_0 k1_1 k1_2
    go_upto_region 7 with fail
    have hn := (H0.out.step b1).alloc #[I 0, I ft, .bool fo] 61
    generalize World.alloc u1 _ = u2 at hn ⊢
    generalize u1.heap.size = gn at hn ⊢
    have HN := Lib.hid hn
    clear hn H0 b1
    have k0_0 : u2.cell? ⟨gn, 0, none⟩ = some (I 0) := HN.out.cell 0 0 rfl rfl
    have k0_1 : u2.cell? ⟨gn, 1, none⟩ = some (I ft) := HN.out.cell 0 1 rfl rfl
    have k0_2 : u2.cell? ⟨gn, 2, none⟩ = some (Value.bool fo) := HN.out.cell 0 2 rfl rfl
    have f0_0 : u2.frozen? ⟨gn, 0, none⟩ = false := HN.out.frozen 0 0 rfl
    go_upto_region 8 with fail
    have hput := HN.out.set 0 0 rfl (I 0)
    simp only [List.set_cons_succ, List.set_cons_zero] at hput
    generalize World.setCell _ _ _ = u3 at hput ⊢
    have HB := Lib.hid hput
    clear hput k0_0 k0_1 k0_2 f0_0
    have k0_0 : u3.cell? ⟨gn, 0, none⟩ = some (I 0) := HB.out.cell 0 0 rfl rfl
    have k0_1 : u3.cell? ⟨gn, 1, none⟩ = some (I ft) := HB.out.cell 0 1 rfl rfl
    have k0_2 : u3.cell? ⟨gn, 2, none⟩ = some (Value.bool fo) := HB.out.cell 0 2 rfl rfl
    go_wp2_with (refine wpList_store_row rfl 61 _ _ rfl gz #[I 0, I ft, Value.bool fo] rfl rfl 61 _ (HB.out.at 1 rfl) infoT rfl (by simp [Value.oneCell']) ?_)
    have hput := HB.out.put 1 rfl #[I 0, I ft, Value.bool fo]
    simp only [List.set_cons_succ, List.set_cons_zero] at hput
    generalize World.setRow _ gz _ = v3 at hput ⊢
    have HG := Lib.hid hput
    clear hput
    go_wp2_with fail
    (try simp only [Exit.inBlock, Exit.then])
    refine bodyPost_ret (v := .agg #[I 0, I ft, Value.bool fo]) ?_ rfl ⟨HR.out, HG.out.bel⟩
    exact results_cell_row rfl _ _ gz 61 _ (0, 0) _ rfl (HG.out.at 1 rfl) Try.underlying61 rfl infoT
  · by_cases ha : cd < mh
    · have hx := tmr_hi (d := d) (e := e) (h := h) (t := t) (hh := mh) (o := o) (i := true) (by rw [if_pos rfl]; exact HM.out) (by rw [HD.out]; omega)
      rw [HE.out, HS.out] at hx
      injection hx with e1 e2 e3
      have HR : Hid (Ending.returned (Value.agg #[I mh, I ce, .bool true]) = Ending.returned (Value.agg #[I h', I t', .bool o'])) := Lib.hid (by rw [← e1, ← e2, ← e3])
      clear e1 e2 e3 HS HF
      go_enter Try.func46, Try.ntmps46
      go_upto_region 1 with fail
      generalize World.alloc (World.alloc w _) _ = u at h0 ⊢
      generalize hgz : w.heap.size + 1 = gz at h0 ⊢
      generalize w.heap.size = gs at h0 ⊢
      clear hgz
      have H0 := Lib.hid h0
      clear h0
      have k1_0 : u.cell? ⟨gs, 0, none⟩ = some (I h) := H0.out.cell 1 0 rfl rfl
      have k1_1 : u.cell? ⟨gs, 1, none⟩ = some (I t) := H0.out.cell 1 1 rfl rfl
      have k1_2 : u.cell? ⟨gs, 2, none⟩ = some (Value.bool o) := H0.out.cell 1 2 rfl rfl
      go_wp2_with (first | (go_at_call 66; with_reducible refine (limit_is HD.out _).mono ?_; rintro e w' ⟨rfl, rfl⟩) | (go_at_call 66; with_reducible refine (limit_is HE.out _).mono ?_; rintro e w' ⟨rfl, rfl⟩) | (go_at_call 65; with_reducible refine (oneMore_is HM.out _).mono ?_; rintro e w' ⟨rfl, rfl⟩) | (refine wpList_store_row rfl 61 _ _ rfl gz #[I mh, I ce, Value.bool true] rfl rfl 61 _ (H0.out.at 0 rfl) infoT rfl (by simp [Value.oneCell']) ?_))
      have hput := H0.out.put 0 rfl #[I mh, I ce, Value.bool true]
      simp only [List.set_cons_succ, List.set_cons_zero] at hput
      generalize World.setRow _ gz _ = v2 at hput ⊢
      have HG := Lib.hid hput
      clear hput
      go_wp2_with fail
      (try simp only [Exit.inBlock, Exit.then])
      refine bodyPost_ret (v := .agg #[I mh, I ce, Value.bool true]) ?_ rfl ⟨HR.out, HG.out.bel⟩
      exact results_cell_row rfl _ _ gz 61 _ (0, 0) _ rfl (HG.out.at 0 rfl) Try.underlying61 rfl infoT
    · have hx := tmr_lo (d := d) (e := e) (h := h) (t := t) (hh := mh) (o := o) (i := true) (by rw [if_pos rfl]; exact HM.out) (by rw [HD.out]; omega) (by rw [HC.out]; exact HF.out)
      rw [HS.out] at hx
      injection hx with e1 e2 e3
      have HR : Hid (Ending.returned (Value.agg #[I mh, I ft, .bool fo]) = Ending.returned (Value.agg #[I h', I t', .bool o'])) := Lib.hid (by rw [← e1, ← e2, ← e3])
      clear e1 e2 e3 HS
      go_enter Try.func46, Try.ntmps46
      go_upto_region 1 with fail
      generalize World.alloc (World.alloc w _) _ = u at h0 ⊢
      generalize hgz : w.heap.size + 1 = gz at h0 ⊢
      generalize w.heap.size = gs at h0 ⊢
      clear hgz
      have H0 := Lib.hid h0
      clear h0
      have k1_0 : u.cell? ⟨gs, 0, none⟩ = some (I h) := H0.out.cell 1 0 rfl rfl
      have k1_1 : u.cell? ⟨gs, 1, none⟩ = some (I t) := H0.out.cell 1 1 rfl rfl
      have k1_2 : u.cell? ⟨gs, 2, none⟩ = some (Value.bool o) := H0.out.cell 1 2 rfl rfl
      go_upto_region 6 with (first | (go_at_call 66; with_reducible refine (limit_is HD.out _).mono ?_; rintro e w' ⟨rfl, rfl⟩) | (go_at_call 66; with_reducible refine (limit_is HE.out _).mono ?_; rintro e w' ⟨rfl, rfl⟩) | (go_at_call 65; with_reducible refine (oneMore_is HM.out _).mono ?_; rintro e w' ⟨rfl, rfl⟩))
      go_wp2_with fail
      refine (fade_as HC.out HF.out _).mono ?_
      rintro e u1 ⟨rfl, b1⟩
      clear k1_0 k1_1 k1_2
      go_upto_region 7 with fail
      have hn := (H0.out.step b1).alloc #[I 0, I ft, .bool fo] 61
      generalize World.alloc u1 _ = u2 at hn ⊢
      generalize u1.heap.size = gn at hn ⊢
      have HN := Lib.hid hn
      clear hn H0 b1
      have k0_0 : u2.cell? ⟨gn, 0, none⟩ = some (I 0) := HN.out.cell 0 0 rfl rfl
      have k0_1 : u2.cell? ⟨gn, 1, none⟩ = some (I ft) := HN.out.cell 0 1 rfl rfl
      have k0_2 : u2.cell? ⟨gn, 2, none⟩ = some (Value.bool fo) := HN.out.cell 0 2 rfl rfl
      have f0_0 : u2.frozen? ⟨gn, 0, none⟩ = false := HN.out.frozen 0 0 rfl
      go_upto_region 8 with fail
      have hput := HN.out.set 0 0 rfl (I mh)
      simp only [List.set_cons_succ, List.set_cons_zero] at hput
      generalize World.setCell _ _ _ = u3 at hput ⊢
      have HB := Lib.hid hput
      clear hput k0_0 k0_1 k0_2 f0_0
      have k0_0 : u3.cell? ⟨gn, 0, none⟩ = some (I mh) := HB.out.cell 0 0 rfl rfl
      have k0_1 : u3.cell? ⟨gn, 1, none⟩ = some (I ft) := HB.out.cell 0 1 rfl rfl
      have k0_2 : u3.cell? ⟨gn, 2, none⟩ = some (Value.bool fo) := HB.out.cell 0 2 rfl rfl
      go_wp2_with (refine wpList_store_row rfl 61 _ _ rfl gz #[I mh, I ft, Value.bool fo] rfl rfl 61 _ (HB.out.at 1 rfl) infoT rfl (by simp [Value.oneCell']) ?_)
      have hput := HB.out.put 1 rfl #[I mh, I ft, Value.bool fo]
      simp only [List.set_cons_succ, List.set_cons_zero] at hput
      generalize World.setRow _ gz _ = v3 at hput ⊢
      have HG := Lib.hid hput
      clear hput
      go_wp2_with fail
      (try simp only [Exit.inBlock, Exit.then])
      refine bodyPost_ret (v := .agg #[I mh, I ft, Value.bool fo]) ?_ rfl ⟨HR.out, HG.out.bel⟩
      exact results_cell_row rfl _ _ gz 61 _ (0, 0) _ rfl (HG.out.at 1 rfl) Try.underlying61 rfl infoT
set_option maxHeartbeats 8000000 in
theorem rstep_is {d e h t h' t' : Int} {o i o' : Bool} (hs : tmr d e ⟨h, t, o⟩ i = ⟨h', t', o'⟩) (w : World) : Calls Try.prog 27 #[.int .i64 d, .int .i64 e, .agg #[I h, I t, .bool o], .bool i] w fun e w' => e = .returned (.agg #[I h', I t', .bool o']) ∧ Below w.heap.size w w' := by
  obtain ⟨cd, hd⟩ : ∃ c, ct d 0 9999 = c := ⟨_, rfl⟩
  obtain ⟨ce, he⟩ : ∃ c, ct e 0 9999 = c := ⟨_, rfl⟩
  obtain ⟨c, hc⟩ : ∃ c, ct t 0 9999 = c := ⟨_, rfl⟩
  obtain ⟨mh, hm⟩ : ∃ c, more h = c := ⟨_, rfl⟩
  obtain ⟨ft, fo, hf⟩ := @fd_held c o
  have d0 : 0 ≤ cd := by rw [← hd]; exact Cnt.ct_lo (by decide)
  have c0 : 0 ≤ c := by rw [← hc]; exact Cnt.ct_lo (by decide)
  have c1 : c ≤ 9999 := by rw [← hc]; exact Cnt.ct_hi (by decide)
  have m0 : 1 ≤ mh := by rw [← hm]; exact Cnt.more_lo h
  have HD := Lib.hid hd
  have HE := Lib.hid he
  have HC := Lib.hid hc
  have HM := Lib.hid hm
  have HF := Lib.hid hf
  have HS := Lib.hid hs
  clear hd he hc hm hf hs
  have h0 := ((Blk.Bks.nil w).alloc #[I h, I t, .bool o] 61).alloc #[I 0, I 0, .bool false] 61
  rw [show (w.alloc (.cells #[I h, I t, .bool o] 61)).heap.size = w.heap.size + 1 by simp] at h0
  cases i
  · have hx := tmr_lo (d := d) (e := e) (h := h) (t := t) (hh := 0) (o := o) (i := false) rfl (by rw [HD.out]; omega) (by rw [HC.out]; exact HF.out)
    rw [HS.out] at hx
    injection hx with e1 e2 e3
    have HR : Hid (Ending.returned (Value.agg #[I 0, I ft, .bool fo]) = Ending.returned (Value.agg #[I h', I t', .bool o'])) := Lib.hid (by rw [← e1, ← e2, ← e3])
    clear e1 e2 e3 HS
    cases o
    · obtain ⟨rfl, rfl⟩ : ft = 0 ∧ fo = false := by have := HF.out; unfold fd at this; rw [if_neg (by simp)] at this; injection this with a b c; exact ⟨b.symm, c.symm⟩
      go_enter Try.func27, Try.ntmps27
      go_upto_region 1 with fail
      generalize World.alloc (World.alloc w _) _ = u at h0 ⊢
      generalize hgz : w.heap.size + 1 = gz at h0 ⊢
      generalize w.heap.size = gs at h0 ⊢
      clear hgz
      have H0 := Lib.hid h0
      clear h0
      have k1_0 : u.cell? ⟨gs, 0, none⟩ = some (I h) := H0.out.cell 1 0 rfl rfl
      have k1_1 : u.cell? ⟨gs, 1, none⟩ = some (I t) := H0.out.cell 1 1 rfl rfl
      have k1_2 : u.cell? ⟨gs, 2, none⟩ = some (Value.bool false) := H0.out.cell 1 2 rfl rfl
      go_wp2_with (first | (go_at_call 50; with_reducible refine (rcut_is HD.out _).mono ?_; rintro e w' ⟨rfl, rfl⟩) | (go_at_call 50; with_reducible refine (rcut_is HE.out _).mono ?_; rintro e w' ⟨rfl, rfl⟩) | (go_at_call 50; with_reducible refine (rcut_is HC.out _).mono ?_; rintro e w' ⟨rfl, rfl⟩) | (go_at_call 49; with_reducible refine (rmore_is HM.out _).mono ?_; rintro e w' ⟨rfl, rfl⟩) | (refine wpList_store_row rfl 61 _ _ rfl gz #[I 0, I 0, Value.bool false] rfl rfl 61 _ (H0.out.at 0 rfl) infoT rfl (by simp [Value.oneCell']) ?_))
      have hput := H0.out.put 0 rfl #[I 0, I 0, Value.bool false]
      simp only [List.set_cons_succ, List.set_cons_zero] at hput
      generalize World.setRow _ gz _ = v2 at hput ⊢
      have HG := Lib.hid hput
      clear hput
      go_wp2_with fail
      (try simp only [Exit.inBlock, Exit.then])
      refine bodyPost_ret (v := .agg #[I 0, I 0, Value.bool false]) ?_ rfl ⟨HR.out, HG.out.bel⟩
      exact results_cell_row rfl _ _ gz 61 _ (0, 0) _ rfl (HG.out.at 0 rfl) Try.underlying61 rfl infoT
    · by_cases hq : 0 < c
      · obtain ⟨rfl, rfl⟩ : ft = (c - 1) ∧ fo = true := by have := HF.out; unfold fd at this; rw [if_pos ⟨rfl, hq⟩] at this; injection this with a b c; exact ⟨b.symm, c.symm⟩
        go_enter Try.func27, Try.ntmps27
        go_upto_region 1 with fail
        generalize World.alloc (World.alloc w _) _ = u at h0 ⊢
        generalize hgz : w.heap.size + 1 = gz at h0 ⊢
        generalize w.heap.size = gs at h0 ⊢
        clear hgz
        have H0 := Lib.hid h0
        clear h0
        have k1_0 : u.cell? ⟨gs, 0, none⟩ = some (I h) := H0.out.cell 1 0 rfl rfl
        have k1_1 : u.cell? ⟨gs, 1, none⟩ = some (I t) := H0.out.cell 1 1 rfl rfl
        have k1_2 : u.cell? ⟨gs, 2, none⟩ = some (Value.bool true) := H0.out.cell 1 2 rfl rfl
        go_wp2_with (first | (go_at_call 50; with_reducible refine (rcut_is HD.out _).mono ?_; rintro e w' ⟨rfl, rfl⟩) | (go_at_call 50; with_reducible refine (rcut_is HE.out _).mono ?_; rintro e w' ⟨rfl, rfl⟩) | (go_at_call 50; with_reducible refine (rcut_is HC.out _).mono ?_; rintro e w' ⟨rfl, rfl⟩) | (go_at_call 49; with_reducible refine (rmore_is HM.out _).mono ?_; rintro e w' ⟨rfl, rfl⟩) | (refine wpList_store_row rfl 61 _ _ rfl gz #[I 0, I (c - 1), Value.bool true] rfl rfl 61 _ (H0.out.at 0 rfl) infoT rfl (by simp [Value.oneCell']) ?_))
        have hput := H0.out.put 0 rfl #[I 0, I (c - 1), Value.bool true]
        simp only [List.set_cons_succ, List.set_cons_zero] at hput
        generalize World.setRow _ gz _ = v2 at hput ⊢
        have HG := Lib.hid hput
        clear hput
        go_wp2_with fail
        (try simp only [Exit.inBlock, Exit.then])
        refine bodyPost_ret (v := .agg #[I 0, I (c - 1), Value.bool true]) ?_ rfl ⟨HR.out, HG.out.bel⟩
        exact results_cell_row rfl _ _ gz 61 _ (0, 0) _ rfl (HG.out.at 0 rfl) Try.underlying61 rfl infoT
      · obtain ⟨rfl, rfl⟩ : ft = 0 ∧ fo = false := by have := HF.out; unfold fd at this; rw [if_neg (by simp; omega)] at this; injection this with a b c; exact ⟨b.symm, c.symm⟩
        go_enter Try.func27, Try.ntmps27
        go_upto_region 1 with fail
        generalize World.alloc (World.alloc w _) _ = u at h0 ⊢
        generalize hgz : w.heap.size + 1 = gz at h0 ⊢
        generalize w.heap.size = gs at h0 ⊢
        clear hgz
        have H0 := Lib.hid h0
        clear h0
        have k1_0 : u.cell? ⟨gs, 0, none⟩ = some (I h) := H0.out.cell 1 0 rfl rfl
        have k1_1 : u.cell? ⟨gs, 1, none⟩ = some (I t) := H0.out.cell 1 1 rfl rfl
        have k1_2 : u.cell? ⟨gs, 2, none⟩ = some (Value.bool true) := H0.out.cell 1 2 rfl rfl
        go_wp2_with (first | (go_at_call 50; with_reducible refine (rcut_is HD.out _).mono ?_; rintro e w' ⟨rfl, rfl⟩) | (go_at_call 50; with_reducible refine (rcut_is HE.out _).mono ?_; rintro e w' ⟨rfl, rfl⟩) | (go_at_call 50; with_reducible refine (rcut_is HC.out _).mono ?_; rintro e w' ⟨rfl, rfl⟩) | (go_at_call 49; with_reducible refine (rmore_is HM.out _).mono ?_; rintro e w' ⟨rfl, rfl⟩) | (refine wpList_store_row rfl 61 _ _ rfl gz #[I 0, I 0, Value.bool false] rfl rfl 61 _ (H0.out.at 0 rfl) infoT rfl (by simp [Value.oneCell']) ?_))
        have hput := H0.out.put 0 rfl #[I 0, I 0, Value.bool false]
        simp only [List.set_cons_succ, List.set_cons_zero] at hput
        generalize World.setRow _ gz _ = v2 at hput ⊢
        have HG := Lib.hid hput
        clear hput
        go_wp2_with fail
        (try simp only [Exit.inBlock, Exit.then])
        refine bodyPost_ret (v := .agg #[I 0, I 0, Value.bool false]) ?_ rfl ⟨HR.out, HG.out.bel⟩
        exact results_cell_row rfl _ _ gz 61 _ (0, 0) _ rfl (HG.out.at 0 rfl) Try.underlying61 rfl infoT
  · by_cases ha : cd < mh
    · have hx := tmr_hi (d := d) (e := e) (h := h) (t := t) (hh := mh) (o := o) (i := true) (by rw [if_pos rfl]; exact HM.out) (by rw [HD.out]; omega)
      rw [HE.out, HS.out] at hx
      injection hx with e1 e2 e3
      have HR : Hid (Ending.returned (Value.agg #[I mh, I ce, .bool true]) = Ending.returned (Value.agg #[I h', I t', .bool o'])) := Lib.hid (by rw [← e1, ← e2, ← e3])
      clear e1 e2 e3 HS HF
      go_enter Try.func27, Try.ntmps27
      go_upto_region 1 with fail
      generalize World.alloc (World.alloc w _) _ = u at h0 ⊢
      generalize hgz : w.heap.size + 1 = gz at h0 ⊢
      generalize w.heap.size = gs at h0 ⊢
      clear hgz
      have H0 := Lib.hid h0
      clear h0
      have k1_0 : u.cell? ⟨gs, 0, none⟩ = some (I h) := H0.out.cell 1 0 rfl rfl
      have k1_1 : u.cell? ⟨gs, 1, none⟩ = some (I t) := H0.out.cell 1 1 rfl rfl
      have k1_2 : u.cell? ⟨gs, 2, none⟩ = some (Value.bool o) := H0.out.cell 1 2 rfl rfl
      go_wp2_with (first | (go_at_call 50; with_reducible refine (rcut_is HD.out _).mono ?_; rintro e w' ⟨rfl, rfl⟩) | (go_at_call 50; with_reducible refine (rcut_is HE.out _).mono ?_; rintro e w' ⟨rfl, rfl⟩) | (go_at_call 50; with_reducible refine (rcut_is HC.out _).mono ?_; rintro e w' ⟨rfl, rfl⟩) | (go_at_call 49; with_reducible refine (rmore_is HM.out _).mono ?_; rintro e w' ⟨rfl, rfl⟩) | (refine wpList_store_row rfl 61 _ _ rfl gz #[I mh, I ce, Value.bool true] rfl rfl 61 _ (H0.out.at 0 rfl) infoT rfl (by simp [Value.oneCell']) ?_))
      have hput := H0.out.put 0 rfl #[I mh, I ce, Value.bool true]
      simp only [List.set_cons_succ, List.set_cons_zero] at hput
      generalize World.setRow _ gz _ = v2 at hput ⊢
      have HG := Lib.hid hput
      clear hput
      go_wp2_with fail
      (try simp only [Exit.inBlock, Exit.then])
      refine bodyPost_ret (v := .agg #[I mh, I ce, Value.bool true]) ?_ rfl ⟨HR.out, HG.out.bel⟩
      exact results_cell_row rfl _ _ gz 61 _ (0, 0) _ rfl (HG.out.at 0 rfl) Try.underlying61 rfl infoT
    · have hx := tmr_lo (d := d) (e := e) (h := h) (t := t) (hh := mh) (o := o) (i := true) (by rw [if_pos rfl]; exact HM.out) (by rw [HD.out]; omega) (by rw [HC.out]; exact HF.out)
      rw [HS.out] at hx
      injection hx with e1 e2 e3
      have HR : Hid (Ending.returned (Value.agg #[I mh, I ft, .bool fo]) = Ending.returned (Value.agg #[I h', I t', .bool o'])) := Lib.hid (by rw [← e1, ← e2, ← e3])
      clear e1 e2 e3 HS
      cases o
      · obtain ⟨rfl, rfl⟩ : ft = 0 ∧ fo = false := by have := HF.out; unfold fd at this; rw [if_neg (by simp)] at this; injection this with a b c; exact ⟨b.symm, c.symm⟩
        go_enter Try.func27, Try.ntmps27
        go_upto_region 1 with fail
        generalize World.alloc (World.alloc w _) _ = u at h0 ⊢
        generalize hgz : w.heap.size + 1 = gz at h0 ⊢
        generalize w.heap.size = gs at h0 ⊢
        clear hgz
        have H0 := Lib.hid h0
        clear h0
        have k1_0 : u.cell? ⟨gs, 0, none⟩ = some (I h) := H0.out.cell 1 0 rfl rfl
        have k1_1 : u.cell? ⟨gs, 1, none⟩ = some (I t) := H0.out.cell 1 1 rfl rfl
        have k1_2 : u.cell? ⟨gs, 2, none⟩ = some (Value.bool false) := H0.out.cell 1 2 rfl rfl
        go_wp2_with (first | (go_at_call 50; with_reducible refine (rcut_is HD.out _).mono ?_; rintro e w' ⟨rfl, rfl⟩) | (go_at_call 50; with_reducible refine (rcut_is HE.out _).mono ?_; rintro e w' ⟨rfl, rfl⟩) | (go_at_call 50; with_reducible refine (rcut_is HC.out _).mono ?_; rintro e w' ⟨rfl, rfl⟩) | (go_at_call 49; with_reducible refine (rmore_is HM.out _).mono ?_; rintro e w' ⟨rfl, rfl⟩) | (refine wpList_store_row rfl 61 _ _ rfl gz #[I mh, I 0, Value.bool false] rfl rfl 61 _ (H0.out.at 0 rfl) infoT rfl (by simp [Value.oneCell']) ?_))
        have hput := H0.out.put 0 rfl #[I mh, I 0, Value.bool false]
        simp only [List.set_cons_succ, List.set_cons_zero] at hput
        generalize World.setRow _ gz _ = v2 at hput ⊢
        have HG := Lib.hid hput
        clear hput
        go_wp2_with fail
        (try simp only [Exit.inBlock, Exit.then])
        refine bodyPost_ret (v := .agg #[I mh, I 0, Value.bool false]) ?_ rfl ⟨HR.out, HG.out.bel⟩
        exact results_cell_row rfl _ _ gz 61 _ (0, 0) _ rfl (HG.out.at 0 rfl) Try.underlying61 rfl infoT
      · by_cases hq : 0 < c
        · obtain ⟨rfl, rfl⟩ : ft = (c - 1) ∧ fo = true := by have := HF.out; unfold fd at this; rw [if_pos ⟨rfl, hq⟩] at this; injection this with a b c; exact ⟨b.symm, c.symm⟩
          go_enter Try.func27, Try.ntmps27
          go_upto_region 1 with fail
          generalize World.alloc (World.alloc w _) _ = u at h0 ⊢
          generalize hgz : w.heap.size + 1 = gz at h0 ⊢
          generalize w.heap.size = gs at h0 ⊢
          clear hgz
          have H0 := Lib.hid h0
          clear h0
          have k1_0 : u.cell? ⟨gs, 0, none⟩ = some (I h) := H0.out.cell 1 0 rfl rfl
          have k1_1 : u.cell? ⟨gs, 1, none⟩ = some (I t) := H0.out.cell 1 1 rfl rfl
          have k1_2 : u.cell? ⟨gs, 2, none⟩ = some (Value.bool true) := H0.out.cell 1 2 rfl rfl
          go_wp2_with (first | (go_at_call 50; with_reducible refine (rcut_is HD.out _).mono ?_; rintro e w' ⟨rfl, rfl⟩) | (go_at_call 50; with_reducible refine (rcut_is HE.out _).mono ?_; rintro e w' ⟨rfl, rfl⟩) | (go_at_call 50; with_reducible refine (rcut_is HC.out _).mono ?_; rintro e w' ⟨rfl, rfl⟩) | (go_at_call 49; with_reducible refine (rmore_is HM.out _).mono ?_; rintro e w' ⟨rfl, rfl⟩) | (refine wpList_store_row rfl 61 _ _ rfl gz #[I mh, I (c - 1), Value.bool true] rfl rfl 61 _ (H0.out.at 0 rfl) infoT rfl (by simp [Value.oneCell']) ?_))
          have hput := H0.out.put 0 rfl #[I mh, I (c - 1), Value.bool true]
          simp only [List.set_cons_succ, List.set_cons_zero] at hput
          generalize World.setRow _ gz _ = v2 at hput ⊢
          have HG := Lib.hid hput
          clear hput
          go_wp2_with fail
          (try simp only [Exit.inBlock, Exit.then])
          refine bodyPost_ret (v := .agg #[I mh, I (c - 1), Value.bool true]) ?_ rfl ⟨HR.out, HG.out.bel⟩
          exact results_cell_row rfl _ _ gz 61 _ (0, 0) _ rfl (HG.out.at 0 rfl) Try.underlying61 rfl infoT
        · obtain ⟨rfl, rfl⟩ : ft = 0 ∧ fo = false := by have := HF.out; unfold fd at this; rw [if_neg (by simp; omega)] at this; injection this with a b c; exact ⟨b.symm, c.symm⟩
          go_enter Try.func27, Try.ntmps27
          go_upto_region 1 with fail
          generalize World.alloc (World.alloc w _) _ = u at h0 ⊢
          generalize hgz : w.heap.size + 1 = gz at h0 ⊢
          generalize w.heap.size = gs at h0 ⊢
          clear hgz
          have H0 := Lib.hid h0
          clear h0
          have k1_0 : u.cell? ⟨gs, 0, none⟩ = some (I h) := H0.out.cell 1 0 rfl rfl
          have k1_1 : u.cell? ⟨gs, 1, none⟩ = some (I t) := H0.out.cell 1 1 rfl rfl
          have k1_2 : u.cell? ⟨gs, 2, none⟩ = some (Value.bool true) := H0.out.cell 1 2 rfl rfl
          go_wp2_with (first | (go_at_call 50; with_reducible refine (rcut_is HD.out _).mono ?_; rintro e w' ⟨rfl, rfl⟩) | (go_at_call 50; with_reducible refine (rcut_is HE.out _).mono ?_; rintro e w' ⟨rfl, rfl⟩) | (go_at_call 50; with_reducible refine (rcut_is HC.out _).mono ?_; rintro e w' ⟨rfl, rfl⟩) | (go_at_call 49; with_reducible refine (rmore_is HM.out _).mono ?_; rintro e w' ⟨rfl, rfl⟩) | (refine wpList_store_row rfl 61 _ _ rfl gz #[I mh, I 0, Value.bool false] rfl rfl 61 _ (H0.out.at 0 rfl) infoT rfl (by simp [Value.oneCell']) ?_))
          have hput := H0.out.put 0 rfl #[I mh, I 0, Value.bool false]
          simp only [List.set_cons_succ, List.set_cons_zero] at hput
          generalize World.setRow _ gz _ = v2 at hput ⊢
          have HG := Lib.hid hput
          clear hput
          go_wp2_with fail
          (try simp only [Exit.inBlock, Exit.then])
          refine bodyPost_ret (v := .agg #[I mh, I 0, Value.bool false]) ?_ rfl ⟨HR.out, HG.out.bel⟩
          exact results_cell_row rfl _ _ gz 61 _ (0, 0) _ rfl (HG.out.at 0 rfl) Try.underlying61 rfl infoT
theorem field_out (h t : Int) (o : Bool) (w : World) : (Instr.field 61 (.agg #[I h, I t, .bool o]) 2).run Try.prog w = .ok (.bool o) w := by
  first
    | rfl
    | simp [Instr.field, run_underlying Try.underlying61, go_sem, Result.andThen]
theorem awt1 : tmr 0 2 ⟨0, 0, false⟩ true = ⟨1, 2, true⟩ := by decide
theorem awt2 : tmr 0 2 ⟨1, 2, true⟩ false = ⟨0, 1, true⟩ := by decide
theorem awt3 : tmr 0 2 ⟨0, 1, true⟩ false = ⟨0, 0, true⟩ := by decide
theorem awt4 : tmr 0 2 ⟨0, 0, true⟩ false = ⟨0, 0, false⟩ := by decide
end Go.Proofs.Ytbmcendlpeaaeaa.Dly
