/- Package phase: contract of due. -/
import Derived.Test.YtbpfknkbiaplpaaRu
import Derived.Test.YtbpfknkbiaplpaaPha
namespace Go.Proofs.Ytbpfknkbiaplpaa.Ru
open Go Go.ChangeShapes Go.WideShapes Go.ChangeAt Go.RowKit
open Tab Flat TabArg QL
open May (infoP)
open Ped (ft cu idl Ft infoFt)
open Gap (lm lf gr Tn infoTn)
set_option linter.unusedVariables false
set_option linter.unusedSimpArgs false
set_option maxRecDepth 100000
set_option maxHeartbeats 8000000 in
theorem due_any (p : Ph) (r : Ru) (c : Cu) (n : Ru) (w : World) : Calls Try.prog 27 #[.agg (tuC p r c).toArray, .agg (Ru.cells n).toArray] w fun e w' => e = .returned (.bool (duB p c n)) ∧ Below w.heap.size w w' := by
  obtain ⟨fu, hfu⟩ : ∃ x, fuB p n = x := ⟨_, rfl⟩
  obtain ⟨i1, hi1⟩ : ∃ x, idl n.fs = x := ⟨_, rfl⟩
  obtain ⟨ps, hps⟩ : ∃ x, c.ps = x := ⟨_, rfl⟩
  obtain ⟨dn, hdn⟩ : ∃ x, n.dn = x := ⟨_, rfl⟩
  obtain ⟨ea, hea⟩ : ∃ x, c.ea = x := ⟨_, rfl⟩
  have HE : Hid (duB p c n = (ps && (!dn && (decide (p.min ≤ n.tm) && (i1 && (decide (n.lf = 0) || (fu || ea))))))) := Lib.hid (by unfold duB; rw [hfu, hi1, hps, hdn, hea])
  have FU : Hid (∀ W, Calls Try.prog 54 #[.agg (tuC p r c).toArray, .agg (Ru.cells n).toArray] W fun e w' => e = .returned (.bool fu) ∧ Below W.heap.size W w') := Lib.hid (fun W => by rw [← hfu]; exact full_any p r c n W)
  have SD : Hid (∀ W, Calls Try.prog 53 #[.agg #[I n.fs, I n.ft]] W fun e w' => e = .returned (.bool i1) ∧ Below W.heap.size W w') := Lib.hid (fun W => by rw [← hi1]; exact stands_any _ _ W)
  clear hfu hi1
  have hn0 := Blk.Bks.nil w
  have hn1 := hn0.alloc (tuC p r c).toArray 57
  have hn2 := hn1.alloc (Ru.cells n).toArray 29
  rw [show (w.alloc (.cells (tuC p r c).toArray 57)).heap.size = w.heap.size + 1 by simp] at hn2
  clear hn0
  clear hn1
  go_enter Try.func27, Try.ntmps27
  go_upto_region 1 with fail
  generalize World.alloc (World.alloc w _) _ = v at hn2 ⊢
  generalize hg1 : w.heap.size + 1 = gn at hn2 ⊢
  generalize hg0 : w.heap.size = gt at hn2 ⊢
  clear hg0 hg1
  have H0 := Lib.hid hn2
  clear hn2
  have t_cps : v.cell? ⟨gt, 29, none⟩ = some (.bool c.ps) := H0.out.cell 1 29 rfl rfl
  have t_pmin : v.cell? ⟨gt, 1, none⟩ = some (I p.min) := H0.out.cell 1 1 rfl rfl
  have t_cea : v.cell? ⟨gt, 31, none⟩ = some (.bool c.ea) := H0.out.cell 1 31 rfl rfl
  have n_tm : v.cell? ⟨gn, 1, none⟩ = some (I n.tm) := H0.out.cell 0 1 rfl rfl
  have n_dn : v.cell? ⟨gn, 7, none⟩ = some (.bool n.dn) := H0.out.cell 0 7 rfl rfl
  have n_lf : v.cell? ⟨gn, 4, none⟩ = some (I n.lf) := H0.out.cell 0 4 rfl rfl
  rw [hps] at t_cps
  rw [hdn] at n_dn
  rw [hea] at t_cea
  clear hps hdn
  have SG : Lies v ⟨gn, 2, none⟩ [I n.fs, I n.ft] := seg H0.out 0 2 rfl _ rfl
  have SG2 := Lib.hid SG
  clear SG
  obtain ⟨tm, htm⟩ : ∃ x, n.tm = x := ⟨_, rfl⟩
  obtain ⟨mi, hmi⟩ : ∃ x, p.min = x := ⟨_, rfl⟩
  obtain ⟨lf', hlf⟩ : ∃ x, n.lf = x := ⟨_, rfl⟩
  rw [htm] at HE n_tm
  rw [hmi] at HE t_pmin
  rw [hlf] at HE n_lf
  clear htm hmi
  cases ps
  · replace HE : Hid (duB p c n = false) := Lib.hid (by rw [HE.out]; simp [*])
    go_wp2_with fail
    go_ret
    exact ⟨ret_bool HE.out.symm, H0.out.bel⟩
  cases dn
  rotate_left
  · replace HE : Hid (duB p c n = false) := Lib.hid (by rw [HE.out]; simp [*])
    go_wp2_with fail
    go_ret
    exact ⟨ret_bool HE.out.symm, H0.out.bel⟩
  by_cases h1 : mi ≤ tm
  rotate_left
  · replace HE : Hid (duB p c n = false) := Lib.hid (by rw [HE.out]; simp [*])
    go_wp2_with fail
    go_ret
    exact ⟨ret_bool HE.out.symm, H0.out.bel⟩
  go_wp2_with (refine Row.wpList_load_g 25 _ rfl (by first | rfl | (go_simp; done) | fail) ⟨gn, 2, none⟩ rfl [I n.fs, I n.ft] _ (by first | exact SG2.out | exact seg H2.out 0 2 rfl _ rfl) Try.underlying25 rfl infoFt ?_)
  refine (SD.out _).mono ?_
  rintro e v2 ⟨rfl, b2⟩
  have H2 := Lib.hid (H0.out.step b2)
  clear b2 t_cps n_tm n_dn t_pmin t_cea n_lf
  have t_cea : v2.cell? ⟨gt, 31, none⟩ = some (.bool c.ea) := H2.out.cell 1 31 rfl rfl
  have n_lf : v2.cell? ⟨gn, 4, none⟩ = some (I n.lf) := H2.out.cell 0 4 rfl rfl
  rw [hlf] at n_lf
  rw [hea] at t_cea
  clear hlf
  cases i1
  · replace HE : Hid (duB p c n = false) := Lib.hid (by rw [HE.out]; simp [*])
    go_wp2_with fail
    go_ret
    exact ⟨ret_bool HE.out.symm, H2.out.bel⟩
  by_cases h2 : lf' = 0
  · subst h2
    replace HE : Hid (duB p c n = true) := Lib.hid (by rw [HE.out]; simp [*])
    go_wp2_with fail
    go_ret
    exact ⟨ret_bool HE.out.symm, H2.out.bel⟩
  have z2 : (lf' == 0) = false := by rw [beq_eq_false_iff_ne]; exact h2
  go_wp2_with (first | (refine Row.wpList_load_g 57 _ rfl (by first | rfl | (go_simp; done) | fail) ⟨gt, 0, none⟩ rfl (tuC p r c) _ (seg H2.out 1 0 rfl _ rfl) Try.underlying57 rfl infoTu ?_) | (refine Row.wpList_load_g 29 _ rfl (by first | rfl | (go_simp; done) | fail) ⟨gn, 0, none⟩ rfl n.cells _ (seg H2.out 0 0 rfl _ rfl) Try.underlying29 rfl infoRu ?_))
  refine (FU.out _).mono ?_
  rintro e v3 ⟨rfl, bc⟩
  have H3 := Lib.hid (H2.out.step bc)
  clear bc
  clear t_cea n_lf
  have t_cea : v3.cell? ⟨gt, 31, none⟩ = some (.bool c.ea) := H3.out.cell 1 31 rfl rfl
  rw [hea] at t_cea
  cases fu
  · cases ea
    · replace HE : Hid (duB p c n = false) := Lib.hid (by rw [HE.out]; simp [*])
      go_wp2_with fail
      go_ret
      exact ⟨ret_bool HE.out.symm, H3.out.bel⟩
    · replace HE : Hid (duB p c n = true) := Lib.hid (by rw [HE.out]; simp [*])
      go_wp2_with fail
      go_ret
      exact ⟨ret_bool HE.out.symm, H3.out.bel⟩
  · replace HE : Hid (duB p c n = true) := Lib.hid (by rw [HE.out]; simp [*])
    go_wp2_with fail
    go_ret
    exact ⟨ret_bool HE.out.symm, H3.out.bel⟩
end Go.Proofs.Ytbpfknkbiaplpaa.Ru
